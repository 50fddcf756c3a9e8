/-
  The walks of the two closures that write into a field: object.Strong's and object.Weak's. Conditions: lists of at most 100000 atoms.
-/
import Derived.Test.YtbaaeobdjiglgaaGreatS13
import Derived.Lib.Overlaps
import Derived.Lib.AppendZerosOnto
import Derived.Laws.IdiomCopy
import Derived.Shelf.RegionOpenPlain
import Derived.Laws.Externs
import Derived.Laws.NewBlocks
set_option linter.unusedVariables false
set_option linter.unusedSimpArgs false
namespace Go.Proofs.YtbaaeobdjiglgaaGreat
open Go.RowKit Go.Sort

theorem bel_grown {w w' : World} {g : Nat} (h : Below w.heap.size w w') : w.grownBy w' (some g) := ⟨h.os, h.tape, h.output, h.size, fun k hk _ => h.block k hk⟩
theorem grown_bel {w w1 w2 : World} {g : Nat} (h : w.grownBy w1 (some g)) (hb : Below w1.heap.size w1 w2) : w.grownBy w2 (some g) :=
  ⟨hb.os.trans h.os, hb.tape.trans h.tape, hb.output.trans h.output, Nat.le_trans h.size hb.size, fun k hk hne => (hb.block k (Nat.lt_of_lt_of_le hk h.size)).trans (h.block k hk hne)⟩
/-- a field of a row is another one now: all have their atoms still -/
theorem ones_set {w : World} {g p : Nat} {R : List Cel} {x0 x1 : Cel} (hp : p < R.length) (h : ∀ x ∈ R, OneAt w x) (h1 : AtAt w (.slice x1.a x1.f.vs.length x1.c) x1.f.vs) (hc : w.cell? ⟨g, p * 3 + 2, none⟩ = some (.slice x0.a x0.f.vs.length x0.c)) {u : Value} :
    ∀ x ∈ R.set p x1, OneAt (w.setCell ⟨g, p * 3 + 2, none⟩ u) x := fun x hx => by
  rcases List.mem_or_eq_of_mem_set hx with hx | rfl
  · exact AtAt.setn (h x hx) hc (noInt_v _ _ _)
  · exact AtAt.setn h1 hc (noInt_v _ _ _)
end Go.Proofs.YtbaaeobdjiglgaaGreat

/-
  Rows of one's own into which an element is put: copies of cells within a row, and into a new one. Conditions: none.
-/
set_option linter.unusedVariables false
set_option linter.unusedSimpArgs false
namespace Go.Proofs.YtbaaeobdjiglgaaGreat
open Go.RowKit Go.Sort

theorem run_copyK {P : Program} (w : World) (dT sT ty elem : TypeId) (k b o dLen dCap : Nat) (a : Addr) (sLen sCap : Nat) (cs : List Value)
    (hu : P.underlying dT = some (.slice elem)) (hs : (P.info? elem).map (·.size) = some k) (hn : cs.length = Nat.min sLen dLen * k)
    (hsrc : ∀ j v, cs[j]? = some v → w.cell? (a.add j) = some v) (hc : ∀ j, j < cs.length → (w.cell? ⟨b, o + j, none⟩).isSome = true) (hf : ∀ j, j < cs.length → w.frozen? ⟨b, o + j, none⟩ = false) (h1 : ∀ v ∈ cs, v.oneCell' = true) :
    (Builtin.copy_ #[dT, sT] ty #[.slice (some ⟨b, o, none⟩) dLen dCap, .slice (some a) sLen sCap]).run P w = .ok (goInt (Nat.min sLen dLen)) (w.setCells b o cs) := by
  have hl := run_loadCells_list (P := P) w a cs hsrc
  have hst := run_storeCells_cells (P := P) b o cs 0 w (by simpa using hc) (by simpa using hf) h1
  cases hq : P.info? elem with
  | none => simp [hq] at hs
  | some i =>
    have hi : i.size = k := by simpa [hq] using hs
    simp [Builtin.copy_, run_underlying hu, Builtin.lenOf, Builtin.firstCells, sizeOf, typeInfo, hq, hi, ← hn, hl, hst]

theorem wpList_copyK {P : Program} (w : World) {ops : Array Oper} {rest : List Oper} {o : Oper} {a : Act} {Q : Exit → Act → World → Prop} (hgd : o.guard = none) (d s : Operand) (t t' : TypeId)
    (ho : o.op = .call { callee := .builtin .copy, args := #[d, s], argTypes := #[t, t'] }) (v u : Value) (hd : a.eval d = v) (hs : a.eval s = u) {v' : Value} {w' : World}
    (hr : (Builtin.copy_ #[t, t'] o.type #[v, u]).run P w = .ok v' w') (h : wpList P ops Q rest (a.put o.dst v') w') : wpList P ops Q (o :: rest) a w := by
  refine wpList_plain hgd fun K hK => ?_
  unfold Oper.wp execOp
  simp only [ho, resolve, invoke, builtin, Sem.run_bind, Sem.run_pure, Result.andThen_ok, List.map_toArray, List.map_cons, List.map_nil, hd, hs, hr]
  exact hK _ _ h

theorem wpList_apdK {P : Program} (w : World) {ops : Array Oper} {rest : List Oper} {o : Oper} {a : Act} {Q : Exit → Act → World → Prop} (hgd : o.guard = none) (d s : Operand) (t t' : TypeId)
    (ho : o.op = .call { callee := .builtin .append, args := #[d, s], argTypes := #[t, t'] }) (v u : Value) (hd : a.eval d = v) (hs : a.eval s = u) {v' : Value} {w' : World}
    (hr : (Builtin.append_ #[t, t'] o.type #[v, u]).run P w = .ok v' w') (h : wpList P ops Q rest (a.put o.dst v') w') : wpList P ops Q (o :: rest) a w := by
  refine wpList_plain hgd fun K hK => ?_
  unfold Oper.wp execOp
  simp only [ho, resolve, invoke, builtin, Sem.run_bind, Sem.run_pure, Result.andThen_ok, List.map_toArray, List.map_cons, List.map_nil, hd, hs, hr]
  exact hK _ _ h

/-- a block behind many stores into it -/
theorem heap_setCells {g : Nat} {e : TypeId} : ∀ (vs : List Value) (o : Nat) (w : World) (cur : Array Value), w.heap[g]? = some (.cells cur e (0, 0)) →
    ∃ cur' : Array Value, (w.setCells g o vs).heap[g]? = some (.cells cur' e (0, 0)) ∧ cur'.size = cur.size
  | [], _, _, cur, h => ⟨cur, h, rfl⟩
  | v :: r, o, w, cur, h => by
    rw [World.setCells]
    obtain ⟨c, h1, h2⟩ := heap_setCells r (o + 1) (w.setCell ⟨g, o, none⟩ v) (cur.setIfInBounds o v) (by
      show (w.heap.modify g _)[g]? = _
      rw [Array.getElem?_modify, if_pos rfl, h]
      rfl)
    exact ⟨c, h1, by rw [h2, Array.size_setIfInBounds]⟩
theorem isSome_setC {g : Nat} (vs : List Value) (o : Nat) (w : World) (h : ∀ j, j < vs.length → (w.cell? ⟨g, o + j, none⟩).isSome = true) (k : Nat) (hk : (w.cell? ⟨g, k, none⟩).isSome = true) : ((w.setCells g o vs).cell? ⟨g, k, none⟩).isSome = true := by
  by_cases hin : o ≤ k ∧ k < o + vs.length
  · have := World.cell?_setCells_in g vs o w h (k - o) (by omega)
    rw [show o + (k - o) = k by omega] at this
    rw [this]; rfl
  · rw [World.cell?_setCells_out g vs o w ⟨g, k, none⟩ (fun _ _ => by show k < o ∨ o + vs.length ≤ k; omega)]
    exact hk
/-- what a row is into which ys was put at p: all behind p was moved first (or laid in a new row) -/
theorem own_put {w : World} {base g cap n p k : Nat} {e : TypeId} {cur : Array Value} {xs ys : List Value} (hg : w.heap[g]? = some (.cells cur e (0, 0))) (hb : base ≤ g) (hz : cur.size = cap * k) (hc : n + 1 ≤ cap) (hm : cap ≤ maxLen) (hx : xs.length = n * k) (hy : ys.length = k) (hp : p ≤ n)
    (h1 : ∀ j, j < p * k → w.cell? ⟨g, j, none⟩ = xs[j]?) (h2 : ∀ j, j < k → w.cell? ⟨g, p * k + j, none⟩ = ys[j]?) (h3 : ∀ j, p * k + j < n * k → w.cell? ⟨g, (p + 1) * k + j, none⟩ = xs[p * k + j]?) :
    w.ownsRow base e k (.slice (some ⟨g, 0, none⟩) (n + 1) cap) (n + 1) (xs.take (p * k) ++ ys ++ xs.drop (p * k)) := by
  have hpk : p * k ≤ n * k := Nat.mul_le_mul_right _ hp
  have e1 : (n + 1) * k = n * k + k := by rw [Nat.add_mul, Nat.one_mul]
  have e2 : (p + 1) * k = p * k + k := by rw [Nat.add_mul, Nat.one_mul]
  have hck : (n + 1) * k ≤ cap * k := Nat.mul_le_mul_right _ hc
  rw [e1] at hck
  refine ⟨by simp only [List.length_append, List.length_take, List.length_drop, hx, hy, e1]; omega, .inr ⟨g, cap, cur, rfl, hb, hg, hc, hm, hz, ?_⟩⟩
  have hcell : ∀ j, j < cur.size → w.cell? ⟨g, j, none⟩ = cur[j]? := fun j hj => by simp [World.cell?, hg, hj]
  apply List.ext_getElem?
  intro j
  rw [e1, List.getElem?_take, Array.getElem?_toList]
  by_cases hj : j < n * k + k
  · rw [if_pos hj, ← hcell j (by omega)]
    by_cases j1 : j < p * k
    · rw [h1 j j1, List.append_assoc, List.getElem?_append_left (by rw [List.length_take]; omega), List.getElem?_take, if_pos j1]
    · by_cases j2 : j < p * k + k
      · have := h2 (j - p * k) (by omega)
        rw [show p * k + (j - p * k) = j by omega] at this
        rw [this, List.append_assoc, List.getElem?_append_right (by rw [List.length_take]; omega), List.length_take, show min (p * k) xs.length = p * k by omega, List.getElem?_append_left (by omega)]
      · have := h3 (j - (p * k + k)) (by omega)
        rw [e2, show p * k + k + (j - (p * k + k)) = j by omega] at this
        rw [this, List.getElem?_append_right (by rw [List.length_append, List.length_take]; omega), List.length_append, List.length_take, show min (p * k) xs.length = p * k by omega, hy, List.getElem?_drop]
  · rw [if_neg hj, List.getElem?_eq_none (by simp only [List.length_append, List.length_take, List.length_drop, hx, hy]; omega)]
theorem flat_take (R : List Cel) (p : Nat) : (R.flatMap fc).take (p * 3) = (R.take p).flatMap fc := by
  induction R generalizing p with
  | nil => simp
  | cons x r ih =>
    cases p with
    | zero => simp
    | succ p =>
      rw [List.flatMap_cons, List.take_succ_cons, List.flatMap_cons, ← ih p, List.take_append, show (fc x).length = 3 from rfl, List.take_of_length_le (by show 3 ≤ _; omega), show (p + 1) * 3 - 3 = p * 3 by omega]
theorem flat_drop (R : List Cel) (p : Nat) : (R.flatMap fc).drop (p * 3) = (R.drop p).flatMap fc := by
  induction R generalizing p with
  | nil => simp
  | cons x r ih =>
    cases p with
    | zero => simp
    | succ p =>
      rw [List.flatMap_cons, List.drop_succ_cons, ← ih p, List.drop_append, show (fc x).length = 3 from rfl, List.drop_of_length_le (by show 3 ≤ _; omega), show (p + 1) * 3 - 3 = p * 3 by omega, List.nil_append]
theorem RowF.ins {base : Nat} {w : World} {v : Value} {R : List Cel} {p : Nat} {x : Cel} (hp : p ≤ R.length) (h : w.ownsRow base 49 3 v (R.length + 1) ((R.flatMap fc).take (p * 3) ++ fc x ++ (R.flatMap fc).drop (p * 3))) : RowF base w v (R.take p ++ x :: R.drop p) := by
  unfold RowF
  rw [List.flatMap_append, List.flatMap_cons, ← flat_take, ← flat_drop, ← List.append_assoc]
  rw [show (R.take p ++ x :: R.drop p).length = R.length + 1 by simp only [List.length_append, List.length_take, List.length_cons, List.length_drop]; omega]
  exact h
theorem ins_get {R : List Cel} {p : Nat} {x : Cel} (hp : p ≤ R.length) : (R.take p ++ x :: R.drop p)[p]? = some x := by
  rw [List.getElem?_append_right (by rw [List.length_take]; omega), List.length_take, show min p R.length = p by omega, Nat.sub_self]; rfl
theorem ins_set {R : List Cel} {p : Nat} {x y : Cel} (hp : p ≤ R.length) : (R.take p ++ x :: R.drop p).set p y = R.take p ++ y :: R.drop p := by
  rw [List.set_append_right _ _ (by rw [List.length_take]; omega), List.length_take, show min p R.length = p by omega, Nat.sub_self]; rfl
theorem ins_all {R : List Cel} {p : Nat} {x : Cel} {w : World} (h : ∀ x ∈ R, OneAt w x) (hx : OneAt w x) : ∀ y ∈ R.take p ++ x :: R.drop p, OneAt w y := fun y hy => by
  rcases List.mem_append.1 hy with hy | hy
  · exact h y (List.mem_of_mem_take hy)
  · rcases List.mem_cons.1 hy with rfl | hy
    · exact hx
    · exact h y (List.mem_of_mem_drop hy)
theorem fldOf_ins {R : List Cel} {p : Nat} {x : Cel} : fldOf (R.take p ++ x :: R.drop p) = (fldOf R).take p ++ x.f :: (fldOf R).drop p := by
  simp [fldOf, List.map_take, List.map_drop]
theorem place_below {R : List Cel} {n : ByteArray} {p : Nat} {th : Bool} (h : PlaceIs R n p th) {i : Nat} (hi : i < R.length) (hip : i < p) : M.ltN ((fldOf R)[i]'(by rw [fldOf_len]; exact hi)).nm n = true := by
  rw [fldOf_get R i hi]; exact h.2.1.1 i hi hip
theorem place_above {R : List Cel} {n : ByteArray} {p : Nat} (hs : M.RisF (fldOf R)) (h : PlaceIs R n p false) {i : Nat} (hi : i < R.length) (hip : p ≤ i) : M.ltN n ((fldOf R)[i]'(by rw [fldOf_len]; exact hi)).nm = true := by
  rw [fldOf_get R i hi]
  cases h2 : M.ltN n R[i].f.nm with
  | true => rfl
  | false =>
    have e := M.ltN_tri (h.2.1.2 i hi hip) h2
    exact absurd e (M.getF_none.1 (place_none hs h) _ (List.mem_map.2 ⟨_, List.getElem_mem hi, rfl⟩))
end Go.Proofs.YtbaaeobdjiglgaaGreat

/-
  The walk of slices.Insert of one field into a row of fields of the call's own: at the end, in the room that there is, or in a new row. Conditions: rows of at most 100000 fields.
-/
set_option linter.unusedVariables false
set_option linter.unusedSimpArgs false
namespace Go.Proofs.YtbaaeobdjiglgaaGreat
open Go.RowKit Go.Sort

theorem step_copyK {P : Program} {ops : Array Oper} {o : Oper} {a : Act} {w : World} {K : Act → World → Prop} {Q : Exit → Act → World → Prop} {E : Prop}
    (hg : o.guard = none) (d x : Operand) (dT sT : TypeId) (hop : o.op = Op.call { callee := Callee.builtin Builtin.copy, args := #[d, x], argTypes := #[dT, sT] })
    (v u : Value) (hd : a.eval d = v) (hx : a.eval x = u) {v' : Value} {w' : World} (hr : (Builtin.copy_ #[dT, sT] o.type #[v, u]).run P w = .ok v' w') (hK : K (a.put o.dst v') w') :
    if Region.wanted o (yielded ops a.tmps) = true then Oper.wp P o a w K Q else E := by
  have hw : Region.wanted o (yielded ops a.tmps) = true := by simp [Region.wanted, hg]
  rw [if_pos hw]
  unfold Oper.wp
  simp [execOp, hop, resolve, invoke, builtin, hd, hx, hr, Result.andThen]
  exact hK

theorem blk_fc {w : World} {vb : Nat} {x : Cel} {T : TypeId} (hv : w.heap[vb]? = some (.cells #[.string x.f.nm, .bool x.f.su, .slice x.a x.f.vs.length x.c] T (0, 0))) :
    ∀ j u, (fc x)[j]? = some u → w.cell? ⟨vb, 0 + j, none⟩ = some u := by
  obtain ⟨n1, n2, n3, _⟩ := cells3 hv
  intro j u hu
  rw [Nat.zero_add]
  match j, hu with
  | 0, hu => simp [fc] at hu; rw [← hu]; exact n1
  | 1, hu => simp [fc] at hu; rw [← hu]; exact n2
  | 2, hu => simp [fc] at hu; rw [← hu]; exact n3
  | j + 3, hu => simp [fc] at hu
theorem fc_one1 (x : Cel) : ∀ u ∈ fc x, u.oneCell' = true := by
  intro u hu; simp [fc] at hu; rcases hu with rfl | rfl | rfl <;> rfl

end Go.Proofs.YtbaaeobdjiglgaaGreat

/-
  The walk of object.written with the closures of Strong and Weak, and of object.Strong and Weak. Conditions: shapes of at most 100000 fields of as many atoms.
-/
set_option linter.unusedVariables false
set_option linter.unusedSimpArgs false
namespace Go.Proofs.YtbaaeobdjiglgaaGreat
open Go.RowKit Go.Sort
theorem set3' {B : Nat} {w W : World} {g p : Nat} (h : Below B w W) (hg : B ≤ g) (u v x : Value) : Below B w (((W.setCell ⟨g, p, none⟩ u).setCell ⟨g, p + 1, none⟩ v).setCell ⟨g, p + 2, none⟩ x) :=
  ((h.setCell (p := ⟨g, p, none⟩) hg u).setCell (p := ⟨g, p + 1, none⟩) hg v).setCell (p := ⟨g, p + 2, none⟩) hg x
namespace M
theorem set_withF {f : Fld} : ∀ {l : List Fld} {p : Nat}, RisF l → (hp : p < l.length) → l[p].nm = f.nm → l.set p f = withF f l
  | [], p, _, hp, _ => absurd hp (by simp)
  | y :: r, 0, _, _, e => by
    have e' : y.nm = f.nm := e
    unfold withF
    rw [if_pos e'.symm]; rfl
  | y :: r, p + 1, h, hp, e => by
    have a := List.pairwise_cons.1 h
    have hp' : p < r.length := by simpa using hp
    have e' : r[p].nm = f.nm := e
    have hl : ltN y.nm f.nm = true := by rw [← e']; exact a.1 _ (List.getElem_mem hp')
    unfold withF
    rw [if_neg (fun h => ltN_ne hl h.symm), if_neg (by rw [ltN_asymm hl]; simp), List.set_cons_succ, set_withF a.2 hp' e']
theorem ins_withF {f : Fld} : ∀ {l : List Fld} {p : Nat}, RisF l → p ≤ l.length → (∀ i (h : i < l.length), i < p → ltN l[i].nm f.nm = true) → (∀ i (h : i < l.length), p ≤ i → ltN f.nm l[i].nm = true) → l.take p ++ f :: l.drop p = withF f l
  | [], 0, _, _, _, _ => rfl
  | [], p + 1, _, hp, _, _ => absurd hp (by simp)
  | y :: r, 0, _, _, _, h2 => by
    have hl : ltN f.nm y.nm = true := h2 0 (by simp) (Nat.le_refl _)
    unfold withF
    rw [if_neg (ltN_ne hl), if_pos hl]; rfl
  | y :: r, p + 1, h, hp, h1, h2 => by
    have a := List.pairwise_cons.1 h
    have hl : ltN y.nm f.nm = true := h1 0 (by simp) (by omega)
    unfold withF
    rw [if_neg (fun h => ltN_ne hl h.symm), if_neg (by rw [ltN_asymm hl]; simp), List.take_succ_cons, List.drop_succ_cons, List.cons_append, ins_withF a.2 (by simpa using hp) (fun i hi hip => h1 (i + 1) (by simpa using hi) (by omega)) (fun i hi hip => h2 (i + 1) (by simpa using hi) (by omega))]
end M
theorem fldOf_set {R : List Cel} {p : Nat} {x : Cel} : fldOf (R.set p x) = (fldOf R).set p x.f := by simp [fldOf, List.map_set]
/-- what is behind g among the first j -/
def Fr (g : Nat) (R : List Cel) (j : Nat) : Prop := ∀ i (h : i < R.length), i < j → ∀ b o s, R[i].a = some ⟨b, o, s⟩ → g < b
theorem fr_set {g : Nat} {R : List Cel} {j : Nat} {x : Cel} (h : Fr g R j) (hj : j < R.length) (hx : ∀ b o s, x.a = some ⟨b, o, s⟩ → g < b) : Fr g (R.set j x) (j + 1) := fun i hi hij b o s e => by
  rw [List.length_set] at hi
  rw [List.getElem_set] at e
  split at e
  · exact hx b o s e
  · exact h i hi (by omega) b o s e
/-- all of a row have their atoms still behind a store over a field -/
theorem ones_set3 {w : World} {g p : Nat} {R : List Cel} {x1 : Cel} {u0 u1 u2 x0 y0 z0 : Value} (h : ∀ x ∈ R, OneAt w x) (h1 : OneAt w x1) (c0 : w.cell? ⟨g, p, none⟩ = some x0) (c1 : w.cell? ⟨g, p + 1, none⟩ = some y0) (c2 : w.cell? ⟨g, p + 2, none⟩ = some z0) (i0 : NoInt x0) (i1 : NoInt y0) (i2 : NoInt z0) (j : Nat) :
    ∀ x ∈ R.set j x1, OneAt (((w.setCell ⟨g, p, none⟩ u0).setCell ⟨g, p + 1, none⟩ u1).setCell ⟨g, p + 2, none⟩ u2) x := fun x hx => by
  rcases List.mem_or_eq_of_mem_set hx with hx | rfl
  · exact AtAt.set3n (h x hx) c0 c1 c2 i0 i1 i2
  · exact AtAt.set3n h1 c0 c1 c2 i0 i1 i2

end Go.Proofs.YtbaaeobdjiglgaaGreat
