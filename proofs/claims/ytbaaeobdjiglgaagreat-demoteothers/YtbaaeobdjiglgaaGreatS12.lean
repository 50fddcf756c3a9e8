/-
  The walk of object.joined: the fields of two rising lists, together. Conditions: at most 100000 fields of as many atoms, that rise; atoms of the second list that may be.
-/
import Derived.Test.YtbaaeobdjiglgaaGreatGF
import Derived.Test.YtbaaeobdjiglgaaGreatGG
import Derived.Deep.RegionHeldLaw
set_option linter.unusedVariables false
set_option linter.unusedSimpArgs false
namespace Go.Proofs.YtbaaeobdjiglgaaGreat
open Go.RowKit Go.Sort

theorem step_append_fit {w : World} {ops : Array Oper} {o : Oper} {a : Act} {K : Act → World → Prop} {Q : Exit → Act → World → Prop} {E : Prop} (hgd : o.guard = none) (s x : Operand)
    (ho : o.op = .call { callee := .builtin .append, args := #[s, x], argTypes := #[28, 28] })
    (base g k cap : Nat) (R : List Cel) (hs : a.eval s = .slice (some ⟨g, 0, none⟩) k cap) (hk : k = R.length) (hown : RowF base w (.slice (some ⟨g, 0, none⟩) R.length cap) R)
    (ad : Addr) (c : Nat) (z : Cel) (hx : a.eval x = .slice (some ad) 1 c) (hsrc : ∀ j u, (fc z)[j]? = some u → w.cell? (ad.add j) = some u) (hcap : R.length + 1 ≤ cap)
    (h : ∀ w', RowF base w' (.slice (some ⟨g, 0, none⟩) (R ++ [z]).length cap) (R ++ [z]) → w.grownBy w' (some g) → K (a.put o.dst (.slice (some ⟨g, 0, none⟩) (k + 1) cap)) w') :
    if Region.wanted o (yielded ops a.tmps) = true then Oper.wp Tryz.prog o a w K Q else E := by
  obtain ⟨i0, hi, hz0, hz1, hz2⟩ := info_parts infoField
  have hw : Region.wanted o (yielded ops a.tmps) = true := by simp [Region.wanted, hgd]
  rw [if_pos hw]
  subst hk
  obtain ⟨w', hrun, r1, r2⟩ := run_append_fits (P := Tryz.prog) w base 28 o.type 49 i0 3 Tryz.underlying28 hi hz1 g R.length cap (R.flatMap fc) hown ad 1 c (fc z) rfl hsrc (by intro u hu; simp [fc] at hu; rcases hu with rfl | rfl | rfl <;> rfl) hcap
  have r1' := RowF.snoc r1
  unfold Oper.wp
  simp [execOp, ho, resolve, invoke, builtin, hs, hx, hrun, Result.andThen]
  refine h _ ?_ r2
  rw [List.length_append]
  exact r1'
theorem new_fc (W : World) (x : Cel) (t : TypeId) : ∀ j u, (fc x)[j]? = some u → (W.alloc (.cells #[.string x.f.nm, .bool x.f.su, .slice x.a x.f.vs.length x.c] t)).cell? ((⟨W.heap.size, 0, none⟩ : Addr).add j) = some u := by
  obtain ⟨n1, n2, n3⟩ := new_tri W (.string x.f.nm) (.bool x.f.su) (.slice x.a x.f.vs.length x.c) t
  intro j u hu
  rw [add_at]
  match j, hu with
  | 0, hu => simp [fc] at hu; rw [← hu]; exact n1
  | 1, hu => simp [fc] at hu; rw [← hu]; exact n2
  | 2, hu => simp [fc] at hu; rw [← hu]; exact n3
  | j + 3, hu => simp [fc] at hu
/-- fields whose atoms lie behind g -/
def Beh (w : World) (g : Nat) (R : List Cel) : Prop := ∀ x ∈ R, OneAt w x ∧ ∀ b o s, x.a = some ⟨b, o, s⟩ → g < b
theorem Beh.bel {w w' : World} {g : Nat} {R : List Cel} (h : Beh w g R) (hb : Below w.heap.size w w') : Beh w' g R := fun x hx => ⟨(h x hx).1.bel hb, (h x hx).2⟩
theorem grown_blk {w w' : World} {g b : Nat} {x : Obj} (h : w.grownBy w' (some g)) (hne : b ≠ g) (hb : w.heap[b]? = some x) : w'.heap[b]? = w.heap[b]? :=
  h.block b (Array.getElem?_eq_some_iff.1 hb).1 (fun e => hne (Option.some.inj e))
theorem AtAt.grown {w w' : World} {a : Option Addr} {n c g : Nat} {l : List M.Atm} (h : AtAt w (.slice a n c) l) (hg : w.grownBy w' (some g)) (hk : ∀ b o s, a = some ⟨b, o, s⟩ → g < b) : AtAt w' (.slice a n c) l := by
  obtain ⟨h0, a', cap, e, h1⟩ := h
  simp only [Value.slice.injEq] at e
  obtain ⟨rfl, rfl, rfl⟩ := e
  refine ⟨h0, a, c, rfl, ?_⟩
  rcases h1 with h1 | ⟨b, o, rfl, hlt, hr, hc⟩
  · exact .inl h1
  · have hb := hg.block b hlt (fun e => by have := hk b o none rfl; have := Option.some.inj e; omega)
    refine .inr ⟨b, o, rfl, Nat.lt_of_lt_of_le hlt hg.size, hr, fun i hi => ?_⟩
    rw [World.cell?_of_block (w := w) (a := ⟨b, o + i * 2, none⟩) hb, World.cell?_of_block (w := w) (a := ⟨b, o + i * 2 + 1, none⟩) hb]
    exact hc i hi
theorem Beh.grown {w w' : World} {g : Nat} {R : List Cel} (h : Beh w g R) (hg : w.grownBy w' (some g)) : Beh w' g R := fun x hx => ⟨AtAt.grown (h x hx).1 hg (h x hx).2, (h x hx).2⟩
theorem Beh.snoc {w : World} {g : Nat} {R : List Cel} {z : Cel} (h : Beh w g R) (hz : OneAt w z) (ho : ∀ b o s, z.a = some ⟨b, o, s⟩ → g < b) : Beh w g (R ++ [z]) := fun x hx => by
  rcases List.mem_append.1 hx with hx | hx
  · exact h x hx
  · rw [List.mem_singleton.1 hx]; exact ⟨hz, ho⟩
theorem Beh.nil (w : World) (g : Nat) : Beh w g [] := fun x hx => by cases hx
theorem filter_one {α : Type} (p : α → Bool) (x : α) : [x].filter p = if p x then [x] else [] := by cases h : p x <;> simp [List.filter, h]
theorem fldOf_snoc (R : List Cel) (z : Cel) : fldOf (R ++ [z]) = fldOf R ++ [z.f] := by simp [fldOf]
theorem fldOf_take {R : List Cel} {j : Nat} {x : Cel} (hj : j < R.length) (hx : R[j] = x) : (fldOf R).take (j + 1) = (fldOf R).take j ++ [x.f] := by
  rw [List.take_succ_eq_append_getElem (by rw [fldOf_len]; exact hj), fldOf_get R j hj, hx]

/-- fields that the call has laid itself, behind base -/
def FsNew (base : Nat) (w : World) (v : Value) (l : List M.Fld) : Prop := ∃ R, fldOf R = l ∧ RowF base w v R ∧ ∀ x ∈ R, OneAt w x
def ShNew (base : Nat) (w : World) (v : Value) (s : M.Shp) : Prop := ∃ vf vp, v = .agg #[vf, vp] ∧ FsNew base w vf s.fs ∧ AtAt w vp s.pr
theorem FsNew.at {base : Nat} {w : World} {v : Value} {l : List M.Fld} (h : FsNew base w v l) : FsAt w v l := by
  obtain ⟨R, h1, h2, h3⟩ := h
  exact ⟨R, h1, h2.at h3⟩
theorem ShNew.at {base : Nat} {w : World} {v : Value} {s : M.Shp} (h : ShNew base w v s) : ShAt w v s := by
  obtain ⟨vf, vp, h1, h2, h3⟩ := h
  exact ⟨vf, vp, h1, h2.at, h3⟩
theorem FsNew.bel {base : Nat} {w w' : World} {v : Value} {l : List M.Fld} (h : FsNew base w v l) (hb : Below w.heap.size w w') : FsNew base w' v l := by
  obtain ⟨R, h1, h2, h3⟩ := h
  exact ⟨R, h1, h2.keep hb, fun x hx => (h3 x hx).bel hb⟩
theorem ShNew.bel {base : Nat} {w w' : World} {v : Value} {s : M.Shp} (h : ShNew base w v s) (hb : Below w.heap.size w w') : ShNew base w' v s := by
  obtain ⟨vf, vp, h1, h2, h3⟩ := h
  exact ⟨vf, vp, h1, h2.bel hb, h3.bel hb⟩
theorem RowF.other {base : Nat} {w : World} {v : Value} {R : List Cel} {g p : Nat} {u : Value} (h : RowF base w v R) (hg : g < base) : RowF base (w.setCell ⟨g, p, none⟩ u) v R := by
  refine ⟨h.1, ?_⟩
  rcases h.2 with h | ⟨g', cap', cur, hv, hb', hh, hr⟩
  · exact .inl h
  · exact .inr ⟨g', cap', cur, hv, hb', by rw [set_blk _ _ _ _ _ (by omega)]; exact hh, hr⟩
theorem RowF.mono {base base' : Nat} {w : World} {v : Value} {R : List Cel} (h : RowF base w v R) (hb : base' ≤ base) : RowF base' w v R := by
  refine ⟨h.1, ?_⟩
  rcases h.2 with h | ⟨g', cap', cur, hv, hb', hr⟩
  · exact .inl h
  · exact .inr ⟨g', cap', cur, hv, Nat.le_trans hb hb', hr⟩
theorem FsNew.set {base : Nat} {w : World} {v : Value} {l : List M.Fld} {g p : Nat} {u u0 : Value} (h : FsNew base w v l) (hg : g < base) (hc : w.cell? ⟨g, p, none⟩ = some u0) (hi : NoInt u0) : FsNew base (w.setCell ⟨g, p, none⟩ u) v l := by
  obtain ⟨R, h1, h2, h3⟩ := h
  exact ⟨R, h1, h2.other hg, fun x hx => AtAt.setn (h3 x hx) hc hi⟩
theorem FsNew.mono {base base' : Nat} {w : World} {v : Value} {l : List M.Fld} (h : FsNew base w v l) (hb : base' ≤ base) : FsNew base' w v l := by
  obtain ⟨R, h1, h2, h3⟩ := h
  exact ⟨R, h1, h2.mono hb, h3⟩
theorem ShNew.mono {base base' : Nat} {w : World} {v : Value} {s : M.Shp} (h : ShNew base w v s) (hb : base' ≤ base) : ShNew base' w v s := by
  obtain ⟨vf, vp, h1, h2, h3⟩ := h
  exact ⟨vf, vp, h1, h2.mono hb, h3⟩
/-- two stores over a shape's box -/
theorem ShNew.set2 {base : Nat} {w : World} {v : Value} {s : M.Shp} {g : Nat} {u0 u1 x0 x1 : Value} (h : ShNew base w v s) (hg : g < base) (c0 : w.cell? ⟨g, 0, none⟩ = some x0) (c1 : w.cell? ⟨g, 1, none⟩ = some x1) (i0 : NoInt x0) (i1 : NoInt x1) :
    ShNew base ((w.setCell ⟨g, 0, none⟩ u0).setCell ⟨g, 1, none⟩ u1) v s := by
  obtain ⟨vf, vp, h1, h2, h3⟩ := h
  exact ⟨vf, vp, h1, (h2.set hg c0 i0).set hg (cell_set_ne c1 (by omega)) i1, (h3.setn c0 i0).setn (cell_set_ne c1 (by omega)) i1⟩
theorem ShNew.zero (w : World) (base : Nat) : ShNew base w (.agg #[.slice none 0 0, .slice none 0 0]) M.zeroS := ⟨_, _, rfl, ⟨[], rfl, RowF.nil w base, fun x hx => by cases hx⟩, AtAt.nil w⟩
theorem FsNew.form {base : Nat} {w : World} {v : Value} {l : List M.Fld} (h : FsNew base w v l) : ∃ a c, v = .slice a l.length c := by
  obtain ⟨R, h1, h2, _⟩ := h
  obtain ⟨q, m, rfl⟩ := h2.form
  exact ⟨q, m, by rw [← h1, fldOf_len]⟩
theorem set2b {w W : World} {g : Nat} (h : Below w.heap.size w W) (hg : w.heap.size ≤ g) (u v : Value) : Below w.heap.size w ((W.setCell ⟨g, 0, none⟩ u).setCell ⟨g, 1, none⟩ v) :=
  (h.setCell (p := ⟨g, 0, none⟩) hg u).setCell (p := ⟨g, 1, none⟩) hg v

set_option maxHeartbeats 4000000 in
set_option maxRecDepth 100000 in
theorem joined_any (w : World) (va vb : Value) (R Q : List Cel) (h1 : RsAt w va R) (h2 : RsAt w vb Q) (n1 : R.length ≤ 100000) (n2 : Q.length ≤ 100000) (s1 : M.RisF (fldOf R)) (s2 : M.RisF (fldOf Q)) (v1 : ∀ x ∈ R, x.f.vs.length ≤ 100000) (v2 : ∀ x ∈ Q, x.f.vs.length ≤ 100000) (m2 : ∀ f ∈ fldOf Q, M.mayL f.vs = true) :
    Calls Tryz.prog 59 #[va, vb] w fun e w' => ∃ v, e = .returned v ∧ FsNew w.heap.size w' v (M.joinF (fldOf R) (fldOf Q)) ∧ Below w.heap.size w w' := by
  have mixed := mixedP
  obtain ⟨i0, hi, hz0, hz1, hz2⟩ := info_parts infoField
  obtain ⟨a, c, rfl⟩ := h1.form
  obtain ⟨b, d, rfl⟩ := h2.form
  have T1 := hid h1
  have T2 := hid h2
  have S1 := hid s1
  have S2 := hid s2
  have V1 := hid v1
  have V2 := hid v2
  have M2 := hid m2
  clear h1 h2 s1 s2 v1 v2 m2
  go_enter Tryz.func59, Tryz.ntmps59
  go_wp2_with (at_make; refine wpList_make_own _ rfl _ _ 28 rfl w.heap.size 49 i0 _ 3 Tryz.underlying28 hi hz0 hz1 _ _ _ (R.length + Q.length) rfl rfl (by omega) (by rw [hz2]; omega) (by unfold maxLen; omega) (Nat.le_refl _) ?_; intro w1 hown1 hgrow1)
  obtain ⟨cap, hcp⟩ : ∃ cap, R.length + Q.length = cap := ⟨_, rfl⟩
  rw [hcp] at hown1
  simp only [hcp]
  have hbel := hid ((Below.refl w.heap.size w).grown hgrow1 (Nat.le_refl _) (fun k e => by cases e))
  obtain ⟨g, hgw⟩ : ∃ g, w.heap.size = g := ⟨_, rfl⟩
  have hg0 : w.heap.size ≤ g := by omega
  rw [show (some ⟨w.heap.size, 0, none⟩ : Option Addr) = some ⟨g, 0, none⟩ by rw [hgw]] at hown1 ⊢
  have hrow0 : Hid (RowF w.heap.size w1 (.slice (some ⟨g, 0, none⟩) ([] : List Cel).length cap) []) := hown1
  have HCP := hid hcp
  have HGW := hid hgw
  clear hgw hgrow1 hown1 hcp
  go_wp2
  go_loopw [22, 5] (fun i u w' => ∃ (j : Nat) (acc : List Cel), j ≤ R.length ∧ i = .int .i64 j ∧ Hid (acc.length = j) ∧ u = .slice (some ⟨g, 0, none⟩) acc.length cap ∧ Hid (fldOf acc = ((fldOf R).take j).map (M.pa (fldOf Q))) ∧ Hid (RowF w.heap.size w' (.slice (some ⟨g, 0, none⟩) acc.length cap) acc) ∧ Hid (Beh w' g acc) ∧ Hid (Below w.heap.size w w')) (fun i _ _ => R.length - (intOf i).toNat)
  case atStart => exact ⟨0, [], Nat.zero_le _, rfl, rfl, rfl, rfl, hrow0, Beh.nil _ _, hbel⟩
  case round =>
    clear hrow0 hbel
    obtain ⟨j, acc, hj, rfl, hal, rfl, hacc, hrow, hbeh, hbel⟩ := hrel
    have hgr : g < wr.heap.size := hrow.out.tri.2.1
    by_cases hjl : j < R.length
    · obtain ⟨bb, o, rfl, hlt, hc⟩ := Rs_some T1.out hjl
      obtain ⟨c1, c2, c3⟩ := (hc j hjl).bel hlt hbel.out
      have HX := hid (T1.out.1 _ (List.getElem_mem hjl))
      have hxl := V1.out _ (List.getElem_mem hjl)
      obtain ⟨x, hx⟩ : ∃ x, R[j] = x := ⟨_, rfl⟩
      rw [hx] at c1 c2 c3 HX hxl
      have HXE := hid hx
      clear hx hc
      obtain ⟨W1, hW1⟩ : ∃ W1, wr.alloc (.cells #[.string x.f.nm, .bool x.f.su, .slice x.a x.f.vs.length x.c] 49) = W1 := ⟨_, rfl⟩
      have hB1 : Below wr.heap.size wr W1 := by rw [← hW1]; exact (gr_new _ _).below
      have hsz : wr.heap.size < W1.heap.size := by rw [← hW1]; simp
      have P1 := new_at wr (.cells #[.string x.f.nm, .bool x.f.su, .slice x.a x.f.vs.length x.c] 49)
      rw [hW1] at P1
      obtain ⟨p1, p2, p3, pf⟩ := cells3 P1
      have HP1 := hid P1
      have B1 : Hid (Below w.heap.size w W1) := hbel.out.trans (hB1.mono hbel.out.size)
      have R1 := hid (hrow.out.keep hB1)
      have E1 := hid (hbeh.out.bel hB1)
      have K := hid (find_any W1 _ Q x.f.nm (T2.out.bel B1.out) (by omega) S2.out)
      clear P1 hrow hbeh
      go_wp2_with (go_at_call 76; refine stopHere ?_)
      refine stopAt ?_
      refine K.out.mono ?_
      rintro e w3 ⟨y, rfl, hyf, hoy, hb3⟩
      have B3 : Hid (Below w.heap.size w w3) := B1.out.trans (hb3.mono B1.out.size)
      have HOY := hid hoy
      have HYF := hid hyf
      obtain ⟨p1', p2', p3', pf'⟩ := cells3 (kept HP1.out hsz hb3)
      have hs3 : wr.heap.size < w3.heap.size := Nat.lt_of_lt_of_le hsz hb3.size
      have R3 := hid (R1.out.keep hb3)
      have E3 := hid (E1.out.bel hb3)
      clear hyf hoy hb3 hW1 p1 p2 p3 pf c1 c2 c3 K R1 E1
      unfold fv
      obtain ⟨W4, hW4⟩ : ∃ W4, w3.alloc (.cells #[.string y.f.nm, .bool y.f.su, .slice y.a y.f.vs.length y.c] 49) = W4 := ⟨_, rfl⟩
      have hB4 : Below w3.heap.size w3 W4 := by rw [← hW4]; exact (gr_new _ _).below
      have hn4 := new_at w3 (.cells #[.string y.f.nm, .bool y.f.su, .slice y.a y.f.vs.length y.c] 49)
      rw [hW4] at hn4
      have hs4 : w3.heap.size < W4.heap.size := by rw [← hW4]; simp
      obtain ⟨q1, q2, q3, qf⟩ := cells3 hn4
      have B4 : Hid (Below w.heap.size w W4) := B3.out.trans (hB4.mono B3.out.size)
      have u1 := p1'
      have u2 := p2'
      have u3 := p3'
      rw [← hB4.cell (p := ⟨wr.heap.size, 0, none⟩) hs3] at u1
      rw [← hB4.cell (p := ⟨wr.heap.size, 1, none⟩) hs3] at u2
      rw [← hB4.cell (p := ⟨wr.heap.size, 2, none⟩) hs3] at u3
      have HOY4 := hid (HOY.out.bel hB4)
      have HOX4 := hid (HX.out.bel B4.out)
      have R4 := hid (R3.out.keep hB4)
      have E4 := hid (E3.out.bel hB4)
      have hyl : y.f.vs.length ≤ 100000 := by
        rw [HYF.out, vsO_getD]
        cases hg : M.getF (fldOf Q) x.f.nm with
        | none => exact Nat.zero_le _
        | some f => obtain ⟨z, hz, hze⟩ := List.mem_map.1 (M.getF_mem hg); rw [← hze]; exact V2.out z hz
      have hg4 : g < W4.heap.size := by omega
      have KU : Hid (∀ W, Below W4.heap.size W4 W → Calls Tryz.prog 60 #[.slice x.a x.f.vs.length x.c, .slice y.a y.f.vs.length y.c] W fun e w' => ∃ (q : Option Addr) (m : Nat), e = .returned (.slice q (M.norm (x.f.vs ++ y.f.vs)).length m) ∧ AtAt w' (.slice q (M.norm (x.f.vs ++ y.f.vs)).length m) (M.norm (x.f.vs ++ y.f.vs)) ∧ (∀ b o s, q = some ⟨b, o, s⟩ → g < b) ∧ Below W4.heap.size W4 w' ∧ W4.heap.size ≤ w'.heap.size) := fun W hb =>
        (union_new W _ _ x.f.vs y.f.vs (HOX4.out.bel hb) (HOY4.out.bel hb) (by omega) hyl).mono fun e w' ⟨v, h1, h2, h3, h4⟩ => by
          obtain ⟨q, m, rfl⟩ := h2.form
          exact ⟨q, m, h1, h2, fun b o s e => by have := h3 b o s _ _ (by rw [e]); have := hb.size; omega, hb.trans (h4.mono hb.size), Nat.le_trans hb.size h4.size⟩
      have KH : Hid (∀ W, Below W4.heap.size W4 W → (W.cell? ⟨wr.heap.size, 0, none⟩ = some (.string x.f.nm) ∧ W.cell? ⟨wr.heap.size, 1, none⟩ = some (.bool x.f.su) ∧ W.cell? ⟨wr.heap.size, 2, none⟩ = some (.slice x.a x.f.vs.length x.c) ∧ W.cell? ⟨w3.heap.size, 0, none⟩ = some (.string y.f.nm) ∧ W.cell? ⟨w3.heap.size, 1, none⟩ = some (.bool y.f.su) ∧ W.cell? ⟨w3.heap.size, 2, none⟩ = some (.slice y.a y.f.vs.length y.c))) := fun W hb =>
        ⟨by rw [hb.cell (p := ⟨wr.heap.size, 0, none⟩) (by simp; omega)]; exact u1, by rw [hb.cell (p := ⟨wr.heap.size, 1, none⟩) (by simp; omega)]; exact u2, by rw [hb.cell (p := ⟨wr.heap.size, 2, none⟩) (by simp; omega)]; exact u3, by rw [hb.cell (p := ⟨w3.heap.size, 0, none⟩) (by simp; omega)]; exact q1, by rw [hb.cell (p := ⟨w3.heap.size, 1, none⟩) (by simp; omega)]; exact q2, by rw [hb.cell (p := ⟨w3.heap.size, 2, none⟩) (by simp; omega)]; exact q3⟩
      have KG : Hid (∀ W W', Below W4.heap.size W4 W → W.grownBy W' (some g) → (W'.cell? ⟨wr.heap.size, 0, none⟩ = some (.string x.f.nm) ∧ W'.cell? ⟨wr.heap.size, 1, none⟩ = some (.bool x.f.su) ∧ W'.cell? ⟨wr.heap.size, 2, none⟩ = some (.slice x.a x.f.vs.length x.c) ∧ W'.cell? ⟨w3.heap.size, 0, none⟩ = some (.string y.f.nm) ∧ W'.cell? ⟨w3.heap.size, 1, none⟩ = some (.bool y.f.su) ∧ W'.cell? ⟨w3.heap.size, 2, none⟩ = some (.slice y.a y.f.vs.length y.c))) := fun W W' hb hg => by
        have k1 : ∀ b q, b < W4.heap.size → b ≠ g → W'.cell? ⟨b, q, none⟩ = W.cell? ⟨b, q, none⟩ := fun b q h1 h2 => World.cell?_of_block (w := W) (a := ⟨b, q, none⟩) (hg.block b (Nat.lt_of_lt_of_le h1 hb.size) (fun e => h2 (Option.some.inj e)))
        have k2 := KH.out W hb
        rw [k1 _ _ (by omega) (by omega), k1 _ _ (by omega) (by omega), k1 _ _ (by omega) (by omega), k1 _ _ (by omega) (by omega), k1 _ _ (by omega) (by omega), k1 _ _ (by omega) (by omega)]
        exact k2
      cases hxs : x.f.su with
      | true =>
        have HXS := hid hxs
        rw [hxs] at u2 KH KG
        go_wp2_with fail
        clear hW4 u1 u2 u3 q1 q2 q3 qf p1' p2' p3' pf' hxs
        refine wp_region_held_drew (S := (fun W => W.cell? ⟨wr.heap.size, 0, none⟩ = some (.string x.f.nm) ∧ W.cell? ⟨wr.heap.size, 1, none⟩ = some (.bool true) ∧ W.cell? ⟨wr.heap.size, 2, none⟩ = some (.slice x.a x.f.vs.length x.c) ∧ W.cell? ⟨w3.heap.size, 0, none⟩ = some (.string y.f.nm) ∧ W.cell? ⟨w3.heap.size, 1, none⟩ = some (.bool y.f.su) ∧ W.cell? ⟨w3.heap.size, 2, none⟩ = some (.slice y.a y.f.vs.length y.c))) (by kernel_rfl) (KH.out _ (Below.refl _ _).drew) (fun hHeld => ?_)
        refine tk 0 ⟨some 33, .move (.tmp 5), 28, "fields.go:40", #[], none⟩ (v := ?_) hHeld ?_ ?_
        rotate_left
        · intro w hSw; (try dsimp only at hSw); go_simp; (try with_reducible rfl)
        simp only [Act.put, z0, z1, z2]
        refine tk 1 ⟨some 34, .fieldAddr 49 (.tmp 7) 0, 0, "fields.go:40", #[], none⟩ (v := ?_) hHeld ?_ ?_
        rotate_left
        · intro w hSw; (try dsimp only at hSw); go_simp; (try with_reducible rfl)
        simp only [Act.put, z0, z1, z2]
        refine tk 2 ⟨some 35, .load 9 (.tmp 34), 9, "fields.go:40", #[⟨1, .data⟩], none⟩ (v := ?_) hHeld ?_ ?_
        rotate_left
        · intro w hSw; (try dsimp only at hSw); go_simp; (try with_reducible rfl)
        simp only [Act.put, z0, z1, z2]
        refine tk 3 ⟨some 36, .fieldAddr 49 (.tmp 7) 1, 0, "fields.go:40", #[], none⟩ (v := ?_) hHeld ?_ ?_
        rotate_left
        · intro w hSw; (try dsimp only at hSw); go_simp; (try with_reducible rfl)
        simp only [Act.put, z0, z1, z2]
        refine tk 4 ⟨some 37, .load 4 (.tmp 36), 4, "fields.go:40", #[⟨3, .data⟩], none⟩ (v := ?_) hHeld ?_ ?_
        rotate_left
        · intro w hSw; (try dsimp only at hSw); go_simp; (try with_reducible rfl)
        simp only [Act.put, z0, z1, z2]
        refine tk 5 ⟨some 38, .move (.tmp 37), 4, "fields.go:40", #[⟨4, .data⟩], none⟩ (v := ?_) hHeld ?_ ?_
        rotate_left
        · intro w hSw; (try dsimp only at hSw); go_simp; (try with_reducible rfl)
        simp only [Act.put, z0, z1, z2]
        refine tk 6 ⟨some 39, .fieldAddr 49 (.tmp 8) 1, 0, "fields.go:40", #[⟨5, .guard⟩], some (5, true)⟩ (v := ?_) hHeld ?_ ?_
        rotate_left
        · intro w hSw; (try dsimp only at hSw); go_simp; (try with_reducible rfl)
        simp only [Act.put, z0, z1, z2]
        refine tk 7 ⟨some 40, .load 4 (.tmp 39), 4, "fields.go:40", #[⟨6, .data⟩, ⟨5, .guard⟩], some (5, true)⟩ (v := ?_) hHeld ?_ ?_
        rotate_left
        · intro w hSw; (try dsimp only at hSw); go_simp; (try with_reducible rfl)
        simp only [Act.put, z0, z1, z2]
        refine tk 8 ⟨some 41, .pick (.tmp 38) (.tmp 40) (.const (.bool false)), 4, "fields.go:40", #[⟨5, .data⟩, ⟨7, .data⟩], none⟩ (v := ?_) hHeld ?_ ?_
        rotate_left
        · intro w hSw; (try dsimp only at hSw); go_simp; (try with_reducible rfl)
        simp only [Act.put, z0, z1, z2]
        refine tk 9 ⟨some 42, .fieldAddr 49 (.tmp 7) 2, 0, "fields.go:40", #[], none⟩ (v := ?_) hHeld ?_ ?_
        rotate_left
        · intro w hSw; (try dsimp only at hSw); go_simp; (try with_reducible rfl)
        simp only [Act.put, z0, z1, z2]
        refine tk 10 ⟨some 43, .load 29 (.tmp 42), 29, "fields.go:40", #[⟨9, .data⟩], none⟩ (v := ?_) hHeld ?_ ?_
        rotate_left
        · intro w hSw; (try dsimp only at hSw); go_simp; (try with_reducible rfl)
        simp only [Act.put, z0, z1, z2]
        refine tk 11 ⟨some 44, .fieldAddr 49 (.tmp 8) 2, 0, "fields.go:40", #[], none⟩ (v := ?_) hHeld ?_ ?_
        rotate_left
        · intro w hSw; (try dsimp only at hSw); go_simp; (try with_reducible rfl)
        simp only [Act.put, z0, z1, z2]
        refine tk 12 ⟨some 45, .load 29 (.tmp 44), 29, "fields.go:40", #[⟨11, .data⟩], none⟩ (v := ?_) hHeld ?_ ?_
        rotate_left
        · intro w hSw; (try dsimp only at hSw); go_simp; (try with_reducible rfl)
        simp only [Act.put, z0, z1, z2]
        refine wpAnyH_ready (rs := [13]) (by kernel_rfl) (by simp) ?_
        refine AllReadyH.cons (o := ⟨some 46, .call { callee := .value (.func 60), args := #[.tmp 43, .tmp 45], argTypes := #[29, 29] }, 29, "fields.go:40", #[⟨10, .data⟩, ⟨12, .data⟩, ⟨5, .chain⟩], none⟩) rfl (fun K hK => ?_) AllReadyH.nil
        go_simp
        refine (KU.out _ (Below.refl _ _).drew).mono ?_
        rintro e w5 ⟨q5, m5, rfl, hA5, ho5, hb5, hz5⟩
        refine hK.out _ _ (KH.out _ hb5) (fun hHeld => ?_)
        refine tk 14 ⟨some 47, .build 49 #[(0, .tmp 35), (1, .tmp 41), (2, .tmp 46)], 49, "fields.go:40", #[⟨2, .data⟩, ⟨8, .data⟩, ⟨13, .data⟩], none⟩ (v := ?_) hHeld ?_ ?_
        rotate_left
        · intro w hSw; (try dsimp only at hSw); go_simp; (try with_reducible rfl)
        simp only [Act.put, z0, z1, z2]
        refine wpAnyH_ready (rs := [15]) (by kernel_rfl) (by simp) ?_
        refine AllReadyH.cons (o := ⟨some 48, .buildSlice 28 1 #[(0, .tmp 47)], 28, "fields.go:40", #[⟨14, .data⟩], none⟩) rfl (fun K hK => ?_) AllReadyH.nil
        go_simp
        refine hK.out _ _ (KH.out _ (hb5.alloc hz5 _)) (fun hHeld => ?_)
        refine wpAnyH_ready (rs := [16]) (by kernel_rfl) (by simp) ?_
        refine AllReadyH.cons (o := ⟨some 49, .call { callee := .builtin .append, args := #[.tmp 33, .tmp 48], argTypes := #[28, 28] }, 28, "fields.go:40", #[⟨0, .data⟩, ⟨15, .data⟩, ⟨13, .chain⟩], none⟩) rfl (fun K hK => ?_) AllReadyH.nil
        refine step_append_fit (by rfl) _ _ (by rfl) w.heap.size g acc.length cap acc (by rfl) (by rfl) ((R4.out.keep hb5).keep (gr_new _ _).below) ⟨w5.heap.size, 0, none⟩ 1 ⟨⟨x.f.nm, y.f.su, M.norm (x.f.vs ++ y.f.vs)⟩, q5, m5⟩ (by rfl) (new_fc w5 ⟨⟨x.f.nm, y.f.su, M.norm (x.f.vs ++ y.f.vs)⟩, q5, m5⟩ _) (by have := HCP.out; have := hal.out; omega) ?_
        intro w6 hrow6 hg6
        refine hK.out _ _ (KG.out _ _ (hb5.alloc hz5 _) hg6) (fun hHeld => ?_)
        refine tk 17 ⟨some 5, .assign (.tmp 49), 28, "fields.go:40", #[⟨16, .data⟩, ⟨16, .chain⟩, ⟨0, .phase⟩, ⟨1, .phase⟩, ⟨2, .phase⟩, ⟨3, .phase⟩, ⟨4, .phase⟩, ⟨5, .phase⟩, ⟨6, .phase⟩, ⟨7, .phase⟩, ⟨8, .phase⟩, ⟨9, .phase⟩, ⟨10, .phase⟩, ⟨11, .phase⟩, ⟨12, .phase⟩, ⟨13, .phase⟩, ⟨14, .phase⟩, ⟨15, .phase⟩, ⟨16, .phase⟩], none⟩ (v := ?_) hHeld ?_ ?_
        rotate_left
        · intro w hSw; (try dsimp only at hSw); go_simp; (try with_reducible rfl)
        simp only [Act.put, z0, z1, z2]
        refine wpAnyH_done (by kernel_rfl) ?_ _
        have hb56 : Hid (Below W4.heap.size W4 (w5.alloc (.cells #[.string x.f.nm, .bool y.f.su, .slice q5 (M.norm (x.f.vs ++ y.f.vs)).length m5] 49))) := hb5.alloc hz5 _
        have hE5 := hid (E4.out.bel hb5)
        have hA5' : Hid (OneAt w5 ⟨⟨x.f.nm, y.f.su, M.norm (x.f.vs ++ y.f.vs)⟩, q5, m5⟩) := hA5
        have ho5' := hid ho5
        have hrow6' := hid hrow6
        have hg6' := hid hg6
        clear hA5 ho5 hrow6 hg6 hHeld hb5 hz5
        go_wp2
        refine ⟨⟨j + 1, acc ++ [⟨⟨x.f.nm, y.f.su, M.norm (x.f.vs ++ y.f.vs)⟩, q5, m5⟩], by omega, by go_num, by show _ = _; simp [hal.out], by simp, ?_, hrow6', ?_, ?_⟩, by simp [intOf]; omega⟩
        · show _ = _
          rw [fldOf_snoc, hacc.out, fldOf_take hjl HXE.out, List.map_append]
          congr 1
          show [_] = [M.pa (fldOf Q) x.f]
          unfold M.pa
          rw [← suO_getD, ← vsO_getD, ← HYF.out, HXS.out]
          simp
        · exact Beh.grown ((hE5.out.snoc hA5'.out ho5'.out).bel (gr_new _ _).below) hg6'.out
        · exact (B4.out.trans (hb56.out.mono B4.out.size)).grown hg6'.out (Nat.le_trans B4.out.size hb56.out.size) (fun k e => by cases e; omega)
      | false =>
        have HXS := hid hxs
        rw [hxs] at u2 KH KG
        go_wp2_with fail
        clear hW4 u1 u2 u3 q1 q2 q3 qf p1' p2' p3' pf' hxs
        refine wp_region_held_drew (S := (fun W => W.cell? ⟨wr.heap.size, 0, none⟩ = some (.string x.f.nm) ∧ W.cell? ⟨wr.heap.size, 1, none⟩ = some (.bool false) ∧ W.cell? ⟨wr.heap.size, 2, none⟩ = some (.slice x.a x.f.vs.length x.c) ∧ W.cell? ⟨w3.heap.size, 0, none⟩ = some (.string y.f.nm) ∧ W.cell? ⟨w3.heap.size, 1, none⟩ = some (.bool y.f.su) ∧ W.cell? ⟨w3.heap.size, 2, none⟩ = some (.slice y.a y.f.vs.length y.c))) (by kernel_rfl) (KH.out _ (Below.refl _ _).drew) (fun hHeld => ?_)
        refine tk 0 ⟨some 33, .move (.tmp 5), 28, "fields.go:40", #[], none⟩ (v := ?_) hHeld ?_ ?_
        rotate_left
        · intro w hSw; (try dsimp only at hSw); go_simp; (try with_reducible rfl)
        simp only [Act.put, z0, z1, z2]
        refine tk 1 ⟨some 34, .fieldAddr 49 (.tmp 7) 0, 0, "fields.go:40", #[], none⟩ (v := ?_) hHeld ?_ ?_
        rotate_left
        · intro w hSw; (try dsimp only at hSw); go_simp; (try with_reducible rfl)
        simp only [Act.put, z0, z1, z2]
        refine tk 2 ⟨some 35, .load 9 (.tmp 34), 9, "fields.go:40", #[⟨1, .data⟩], none⟩ (v := ?_) hHeld ?_ ?_
        rotate_left
        · intro w hSw; (try dsimp only at hSw); go_simp; (try with_reducible rfl)
        simp only [Act.put, z0, z1, z2]
        refine tk 3 ⟨some 36, .fieldAddr 49 (.tmp 7) 1, 0, "fields.go:40", #[], none⟩ (v := ?_) hHeld ?_ ?_
        rotate_left
        · intro w hSw; (try dsimp only at hSw); go_simp; (try with_reducible rfl)
        simp only [Act.put, z0, z1, z2]
        refine tk 4 ⟨some 37, .load 4 (.tmp 36), 4, "fields.go:40", #[⟨3, .data⟩], none⟩ (v := ?_) hHeld ?_ ?_
        rotate_left
        · intro w hSw; (try dsimp only at hSw); go_simp; (try with_reducible rfl)
        simp only [Act.put, z0, z1, z2]
        refine tk 5 ⟨some 38, .move (.tmp 37), 4, "fields.go:40", #[⟨4, .data⟩], none⟩ (v := ?_) hHeld ?_ ?_
        rotate_left
        · intro w hSw; (try dsimp only at hSw); go_simp; (try with_reducible rfl)
        simp only [Act.put, z0, z1, z2]
        refine tku 6 ⟨some 39, .fieldAddr 49 (.tmp 8) 1, 0, "fields.go:40", #[⟨5, .guard⟩], some (5, true)⟩ hHeld ?_
        simp only [Act.put, z0, z1, z2]
        refine tku 7 ⟨some 40, .load 4 (.tmp 39), 4, "fields.go:40", #[⟨6, .data⟩, ⟨5, .guard⟩], some (5, true)⟩ hHeld ?_
        simp only [Act.put, z0, z1, z2]
        refine tk 8 ⟨some 41, .pick (.tmp 38) (.tmp 40) (.const (.bool false)), 4, "fields.go:40", #[⟨5, .data⟩, ⟨7, .data⟩], none⟩ (v := ?_) hHeld ?_ ?_
        rotate_left
        · intro w hSw; (try dsimp only at hSw); go_simp; (try with_reducible rfl)
        simp only [Act.put, z0, z1, z2]
        refine tk 9 ⟨some 42, .fieldAddr 49 (.tmp 7) 2, 0, "fields.go:40", #[], none⟩ (v := ?_) hHeld ?_ ?_
        rotate_left
        · intro w hSw; (try dsimp only at hSw); go_simp; (try with_reducible rfl)
        simp only [Act.put, z0, z1, z2]
        refine tk 10 ⟨some 43, .load 29 (.tmp 42), 29, "fields.go:40", #[⟨9, .data⟩], none⟩ (v := ?_) hHeld ?_ ?_
        rotate_left
        · intro w hSw; (try dsimp only at hSw); go_simp; (try with_reducible rfl)
        simp only [Act.put, z0, z1, z2]
        refine tk 11 ⟨some 44, .fieldAddr 49 (.tmp 8) 2, 0, "fields.go:40", #[], none⟩ (v := ?_) hHeld ?_ ?_
        rotate_left
        · intro w hSw; (try dsimp only at hSw); go_simp; (try with_reducible rfl)
        simp only [Act.put, z0, z1, z2]
        refine tk 12 ⟨some 45, .load 29 (.tmp 44), 29, "fields.go:40", #[⟨11, .data⟩], none⟩ (v := ?_) hHeld ?_ ?_
        rotate_left
        · intro w hSw; (try dsimp only at hSw); go_simp; (try with_reducible rfl)
        simp only [Act.put, z0, z1, z2]
        refine wpAnyH_ready (rs := [13]) (by kernel_rfl) (by simp) ?_
        refine AllReadyH.cons (o := ⟨some 46, .call { callee := .value (.func 60), args := #[.tmp 43, .tmp 45], argTypes := #[29, 29] }, 29, "fields.go:40", #[⟨10, .data⟩, ⟨12, .data⟩, ⟨5, .chain⟩], none⟩) rfl (fun K hK => ?_) AllReadyH.nil
        go_simp
        refine (KU.out _ (Below.refl _ _).drew).mono ?_
        rintro e w5 ⟨q5, m5, rfl, hA5, ho5, hb5, hz5⟩
        refine hK.out _ _ (KH.out _ hb5) (fun hHeld => ?_)
        refine tk 14 ⟨some 47, .build 49 #[(0, .tmp 35), (1, .tmp 41), (2, .tmp 46)], 49, "fields.go:40", #[⟨2, .data⟩, ⟨8, .data⟩, ⟨13, .data⟩], none⟩ (v := ?_) hHeld ?_ ?_
        rotate_left
        · intro w hSw; (try dsimp only at hSw); go_simp; (try with_reducible rfl)
        simp only [Act.put, z0, z1, z2]
        refine wpAnyH_ready (rs := [15]) (by kernel_rfl) (by simp) ?_
        refine AllReadyH.cons (o := ⟨some 48, .buildSlice 28 1 #[(0, .tmp 47)], 28, "fields.go:40", #[⟨14, .data⟩], none⟩) rfl (fun K hK => ?_) AllReadyH.nil
        go_simp
        refine hK.out _ _ (KH.out _ (hb5.alloc hz5 _)) (fun hHeld => ?_)
        refine wpAnyH_ready (rs := [16]) (by kernel_rfl) (by simp) ?_
        refine AllReadyH.cons (o := ⟨some 49, .call { callee := .builtin .append, args := #[.tmp 33, .tmp 48], argTypes := #[28, 28] }, 28, "fields.go:40", #[⟨0, .data⟩, ⟨15, .data⟩, ⟨13, .chain⟩], none⟩) rfl (fun K hK => ?_) AllReadyH.nil
        refine step_append_fit (by rfl) _ _ (by rfl) w.heap.size g acc.length cap acc (by rfl) (by rfl) ((R4.out.keep hb5).keep (gr_new _ _).below) ⟨w5.heap.size, 0, none⟩ 1 ⟨⟨x.f.nm, false, M.norm (x.f.vs ++ y.f.vs)⟩, q5, m5⟩ (by rfl) (new_fc w5 ⟨⟨x.f.nm, false, M.norm (x.f.vs ++ y.f.vs)⟩, q5, m5⟩ _) (by have := HCP.out; have := hal.out; omega) ?_
        intro w6 hrow6 hg6
        refine hK.out _ _ (KG.out _ _ (hb5.alloc hz5 _) hg6) (fun hHeld => ?_)
        refine tk 17 ⟨some 5, .assign (.tmp 49), 28, "fields.go:40", #[⟨16, .data⟩, ⟨16, .chain⟩, ⟨0, .phase⟩, ⟨1, .phase⟩, ⟨2, .phase⟩, ⟨3, .phase⟩, ⟨4, .phase⟩, ⟨5, .phase⟩, ⟨6, .phase⟩, ⟨7, .phase⟩, ⟨8, .phase⟩, ⟨9, .phase⟩, ⟨10, .phase⟩, ⟨11, .phase⟩, ⟨12, .phase⟩, ⟨13, .phase⟩, ⟨14, .phase⟩, ⟨15, .phase⟩, ⟨16, .phase⟩], none⟩ (v := ?_) hHeld ?_ ?_
        rotate_left
        · intro w hSw; (try dsimp only at hSw); go_simp; (try with_reducible rfl)
        simp only [Act.put, z0, z1, z2]
        refine wpAnyH_done (by kernel_rfl) ?_ _
        have hb56 : Hid (Below W4.heap.size W4 (w5.alloc (.cells #[.string x.f.nm, .bool false, .slice q5 (M.norm (x.f.vs ++ y.f.vs)).length m5] 49))) := hb5.alloc hz5 _
        have hE5 := hid (E4.out.bel hb5)
        have hA5' : Hid (OneAt w5 ⟨⟨x.f.nm, false, M.norm (x.f.vs ++ y.f.vs)⟩, q5, m5⟩) := hA5
        have ho5' := hid ho5
        have hrow6' := hid hrow6
        have hg6' := hid hg6
        clear hA5 ho5 hrow6 hg6 hHeld hb5 hz5
        go_wp2
        refine ⟨⟨j + 1, acc ++ [⟨⟨x.f.nm, false, M.norm (x.f.vs ++ y.f.vs)⟩, q5, m5⟩], by omega, by go_num, by show _ = _; simp [hal.out], by simp, ?_, hrow6', ?_, ?_⟩, by simp [intOf]; omega⟩
        · show _ = _
          rw [fldOf_snoc, hacc.out, fldOf_take hjl HXE.out, List.map_append]
          congr 1
          show [_] = [M.pa (fldOf Q) x.f]
          unfold M.pa
          rw [← suO_getD, ← vsO_getD, ← HYF.out, HXS.out]
          simp
        · exact Beh.grown ((hE5.out.snoc hA5'.out ho5'.out).bel (gr_new _ _).below) hg6'.out
        · exact (B4.out.trans (hb56.out.mono B4.out.size)).grown hg6'.out (Nat.le_trans B4.out.size hb56.out.size) (fun k e => by cases e; omega)
    · have hfull : Hid (fldOf acc = (fldOf R).map (M.pa (fldOf Q)) ∧ acc.length ≤ R.length) := by
        refine ⟨?_, by have := hal.out; omega⟩
        rw [hacc.out, List.take_of_length_le (by rw [fldOf_len]; omega)]
      have hrow0 := hrow
      have hbeh0 := hbeh
      have hbel0 := hbel
      have hstart : Hid (fldOf acc = (fldOf R).map (M.pa (fldOf Q)) ++ (((fldOf Q).take 0).filter fun f => (M.getF (fldOf R) f.nm).isNone).map M.pb) := by
        unfold Hid; rw [hfull.out.1]; simp
      clear hacc hrow hbeh hbel hal
      go_wp2
      go_loopw [53, 5] (fun i u w' => ∃ (k : Nat) (acc : List Cel), k ≤ Q.length ∧ i = .int .i64 k ∧ Hid (acc.length ≤ R.length + k) ∧ u = .slice (some ⟨g, 0, none⟩) acc.length cap ∧ Hid (fldOf acc = (fldOf R).map (M.pa (fldOf Q)) ++ (((fldOf Q).take k).filter fun f => (M.getF (fldOf R) f.nm).isNone).map M.pb) ∧ Hid (RowF w.heap.size w' (.slice (some ⟨g, 0, none⟩) acc.length cap) acc) ∧ Hid (Beh w' g acc) ∧ Hid (Below w.heap.size w w')) (fun i _ _ => Q.length - (intOf i).toNat)
      case atStart => exact ⟨0, acc, Nat.zero_le _, rfl, hfull.out.2, rfl, hstart, hrow0, hbeh0, hbel0⟩
      case round =>
        clear hrow0 hbeh0 hbel0 hstart hfull
        obtain ⟨k, acc, hk, rfl, hal, rfl, hacc, hrow, hbeh, hbel⟩ := hrel
        have hgr : g < wr.heap.size := hrow.out.tri.2.1
        by_cases hkl : k < Q.length
        · obtain ⟨bb, o, rfl, hlt, hc⟩ := Rs_some T2.out hkl
          obtain ⟨c1, c2, c3⟩ := (hc k hkl).bel hlt hbel.out
          have HX := hid (T2.out.1 _ (List.getElem_mem hkl))
          have hxl := V2.out _ (List.getElem_mem hkl)
          obtain ⟨x, hx⟩ : ∃ x, Q[k] = x := ⟨_, rfl⟩
          rw [hx] at c1 c2 c3 HX hxl
          have HXE := hid hx
          clear hx hc
          obtain ⟨W1, hW1⟩ : ∃ W1, wr.alloc (.cells #[.string x.f.nm, .bool x.f.su, .slice x.a x.f.vs.length x.c] 49) = W1 := ⟨_, rfl⟩
          have hB1 : Below wr.heap.size wr W1 := by rw [← hW1]; exact (gr_new _ _).below
          have hsz : wr.heap.size < W1.heap.size := by rw [← hW1]; simp
          have P1 := new_at wr (.cells #[.string x.f.nm, .bool x.f.su, .slice x.a x.f.vs.length x.c] 49)
          rw [hW1] at P1
          obtain ⟨p1, p2, p3, pf⟩ := cells3 P1
          have HP1 := hid P1
          have B1 : Hid (Below w.heap.size w W1) := hbel.out.trans (hB1.mono hbel.out.size)
          have R1 := hid (hrow.out.keep hB1)
          have E1 := hid (hbeh.out.bel hB1)
          have K := hid (find_any W1 _ R x.f.nm (T1.out.bel B1.out) (by omega) S1.out)
          clear P1 hrow hbeh
          go_wp2_with (go_at_call 76; refine stopHere ?_)
          refine stopAt ?_
          refine K.out.mono ?_
          rintro e w3 ⟨y, rfl, hyf, hoy, hb3⟩
          have B3 : Hid (Below w.heap.size w w3) := B1.out.trans (hb3.mono B1.out.size)
          have HP3 := hid (kept HP1.out hsz hb3)
          have hs3 : wr.heap.size < w3.heap.size := Nat.lt_of_lt_of_le hsz hb3.size
          have R3 := hid (R1.out.keep hb3)
          have E3 := hid (E1.out.bel hb3)
          clear hyf hoy hb3 hW1 p1 p2 p3 pf c1 c2 c3 K R1 E1
          unfold fv
          obtain ⟨W4, hW4⟩ : ∃ W4, w3.alloc (.cells #[.string y.f.nm, .bool y.f.su, .slice y.a y.f.vs.length y.c] 49) = W4 := ⟨_, rfl⟩
          have hB4 : Below w3.heap.size w3 W4 := by rw [← hW4]; exact (gr_new _ _).below
          have B4 : Hid (Below w.heap.size w W4) := B3.out.trans (hB4.mono B3.out.size)
          obtain ⟨u1, u2, u3, uf⟩ := cells3 (kept HP3.out hs3 hB4)
          have HP4 := hid (kept HP3.out hs3 hB4)
          have R4 := hid (R3.out.keep hB4)
          have E4 := hid (E3.out.bel hB4)
          have hs4 : wr.heap.size < W4.heap.size := Nat.lt_of_lt_of_le hs3 hB4.size
          have hg4 : g < W4.heap.size := by omega
          have hgw : wr.heap.size ≠ g := by omega
          have HOX4 := hid (HX.out.bel B4.out)
          clear R3 E3 HP3
          have htk : Hid (((fldOf Q).take (k + 1)).filter (fun f => (M.getF (fldOf R) f.nm).isNone) = ((fldOf Q).take k).filter (fun f => (M.getF (fldOf R) f.nm).isNone) ++ (if (M.getF (fldOf R) x.f.nm).isNone then [x.f] else [])) := by
            unfold Hid
            rw [fldOf_take hkl HXE.out, List.filter_append]
            rw [filter_one]
          cases hg : M.getF (fldOf R) x.f.nm with
          | some gg =>
            have HG := hid hg
            simp only [Option.isSome_some]
            clear hg
            go_wp2
            refine ⟨⟨k + 1, acc, by omega, by go_num, by show _ ≤ _; have := hal.out; omega, rfl, ?_, R4, E4, B4⟩, by simp [intOf]; omega⟩
            show _ = _
            rw [hacc.out, htk.out, HG.out]
            simp
          | none =>
            have HG := hid hg
            simp only [Option.isSome_none]
            clear hg
            obtain ⟨W5, hW5⟩ : ∃ W5, W4.setCell ⟨wr.heap.size, 1, none⟩ (.bool false) = W5 := ⟨_, rfl⟩
            have hB5 : Below wr.heap.size W4 W5 := by rw [← hW5]; exact (Below.refl _ _).setCell (p := ⟨wr.heap.size, 1, none⟩) (Nat.le_refl _) _
            have hz5 : W5.heap.size = W4.heap.size := by rw [← hW5]; simp [World.setCell]
            have g5 : W4.grownBy W5 (some wr.heap.size) := by rw [← hW5]; exact grown_set (World.grownBy.refl _ _) _
            have t1 : W5.cell? ⟨wr.heap.size, 0, none⟩ = some (.string x.f.nm) := by rw [← hW5]; exact cell_set_ne u1 (by omega)
            have t2 : W5.cell? ⟨wr.heap.size, 1, none⟩ = some (.bool false) := by rw [← hW5]; exact World.cell?_setCell_same _ _ _ u2
            have t3 : W5.cell? ⟨wr.heap.size, 2, none⟩ = some (.slice x.a x.f.vs.length x.c) := by rw [← hW5]; exact cell_set_ne u3 (by omega)
            have O5 : Hid (OneAt W5 ⟨⟨x.f.nm, false, x.f.vs⟩, x.a, x.c⟩) := by
              have : AtAt W5 (.slice x.a x.f.vs.length x.c) x.f.vs := by rw [← hW5]; exact AtAt.setn HOX4.out u2 (noInt_b _)
              exact this
            have E5 : Hid (Beh W5 g acc) := fun z hz => ⟨by
              have h1 : AtAt W4 z.v z.f.vs := (E4.out z hz).1
              show AtAt W5 z.v z.f.vs
              rw [← hW5]; exact AtAt.setn h1 u2 (noInt_b _), (E4.out z hz).2⟩
            have R5 : Hid (RowF w.heap.size W5 (.slice (some ⟨g, 0, none⟩) acc.length cap) acc) := by
              have hR := R4.out
              refine ⟨hR.1, ?_⟩
              rcases hR.2 with h | ⟨g', cap', cur, hv, hb', hh, hr⟩
              · exact .inl h
              · have hv2 := hv
                simp only [Value.slice.injEq, Option.some.injEq, Addr.mk.injEq, and_true, true_and] at hv2
                refine .inr ⟨g', cap', cur, hv, hb', ?_, hr⟩
                rw [← hW5, set_blk _ _ _ _ _ (by rw [← hv2.1]; exact fun e => hgw e.symm)]
                exact hh
            have B5 : Hid (Below w.heap.size w W5) := by
              unfold Hid; rw [← hW5]; exact B4.out.setCell (p := ⟨wr.heap.size, 1, none⟩) hbel.out.size _
            have K2 := copied_any W5 ⟨⟨x.f.nm, false, x.f.vs⟩, x.a, x.c⟩ O5.out (by show x.f.vs.length ≤ _; omega)
            unfold fv at K2
            have HK2 := hid K2
            clear K2
            have hg5 : g < W5.heap.size := by omega
            go_wp2_with (go_at_call 77; refine stopHere ?_)
            refine stopAt ?_
            refine HK2.out.mono ?_
            rintro e w6 ⟨z, rfl, hzf, hoz, hoff, hb6⟩
            have hzf' := hid hzf
            have HZ := hid hoz
            have HO : Hid (∀ b o s, z.a = some ⟨b, o, s⟩ → g < b) := fun b o s e => by have := hoff b o s e; omega
            have R6 := hid (R5.out.keep hb6)
            have E6 := hid (E5.out.bel hb6)
            have B6 : Hid (Below w.heap.size w w6) := B5.out.trans (hb6.mono B5.out.size)
            have hgz : g < w6.heap.size := Nat.lt_of_lt_of_le hg5 hb6.size
            clear hzf hoz hoff hb6 hW5 hW4 u1 u2 u3 uf t1 t2 t3
            go_wp2_with (at_builtin; refine wpList_append_fits _ rfl _ _ 28 rfl w.heap.size 49 i0 3 Tryz.underlying28 hi hz1 g acc.length cap (acc.flatMap fc) rfl (R6.out.keep (gr_new _ _).below) ⟨w6.heap.size, 0, none⟩ 1 1 (fc z) rfl rfl (new_fc w6 z _) (by intro u hu; simp [fc] at hu; rcases hu with rfl | rfl | rfl <;> rfl) (by have := HCP.out; have := hal.out; omega) ?_; intro w7 hown7 hgrow7)
            have hrow7 := hid (RowF.snoc hown7)
            refine ⟨⟨k + 1, acc ++ [z], by omega, by go_num, by show _ ≤ _; have := hal.out; simp; omega, by simp, ?_, ?_, ?_, ?_⟩, by simp [intOf]; omega⟩
            · show _ = _
              rw [fldOf_snoc, hacc.out, htk.out, HG.out, hzf'.out]
              simp [M.pb]
            · show RowF _ _ _ _
              rw [List.length_append]
              exact hrow7.out
            · exact Beh.grown ((E6.out.snoc HZ.out HO.out).bel (gr_new _ _).below) hgrow7
            · have b7 := B6.out.alloc B6.out.size (.cells #[.string z.f.nm, .bool z.f.su, .slice z.a z.f.vs.length z.c] 49)
              exact b7.grown hgrow7 b7.size (fun k e => by cases e; omega)
        · have hend : Hid (fldOf acc = M.both (fldOf R) (fldOf Q)) := by
            unfold Hid
            rw [hacc.out, List.take_of_length_le (by rw [fldOf_len]; omega)]; rfl
          have K := sortF_any wr w.heap.size g cap acc hrow.out (by have := hal.out; omega)
          unfold fnByName at K
          have HK := hid K
          clear K
          go_wp2_with (first | (go_at_call 78; refine stopHere ?_) | (go_at_fn 78; refine stopHere ?_))
          refine stopAt ?_
          refine HK.out.mono ?_
          rintro e w8 ⟨rfl, dd, hperm, hst, hrow8, hg8⟩
          have hB8 : Hid (Below w.heap.size w w8) := hbel.out.grown hg8 hbel.out.size (fun k e => by cases e; omega)
          have hE8 := hid (hbeh.out.grown hg8)
          have hlen : dd.length = acc.length := hperm.length_eq
          rw [← hlen] at hrow8
          have hF : Hid (FsNew w.heap.size w8 (.slice (some ⟨g, 0, none⟩) acc.length cap) (M.joinF (fldOf R) (fldOf Q))) := by
            refine ⟨dd, ?_, ?_, ?_⟩
            · refine M.sorted_join S1.out S2.out M2.out ?_ hst
              rw [← hend.out]
              exact hperm.map _
            · rw [← hlen]; exact hrow8
            · exact fun x hx => (hE8.out x (hperm.mem_iff.1 hx)).1
          clear hperm hst hrow8 hg8 hlen
          go_wp2
          go_ret
          exact ⟨_, rfl, hF.out, hB8.out⟩
end Go.Proofs.YtbaaeobdjiglgaaGreat
