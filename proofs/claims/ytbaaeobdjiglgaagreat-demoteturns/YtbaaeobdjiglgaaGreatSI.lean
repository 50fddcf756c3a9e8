/-
  Rows of one's own into which an element is put: copies of cells within a row, and into a new one. Conditions: none.
-/
import Derived.Test.YtbaaeobdjiglgaaGreatS14
import Derived.Lib.Overlaps
import Derived.Lib.AppendZerosOnto
import Derived.Laws.IdiomCopy
set_option linter.unusedVariables false
set_option linter.unusedSimpArgs false
namespace Go.Proofs.YtbaaeobdjiglgaaGreat
open Go.RowKit Go.Sort

theorem run_copyK {P : Program} (w : World) (dT sT ty elem : TypeId) (k b o dLen dCap : Nat) (a : Addr) (sLen sCap : Nat) (cs : List Value)
    (hu : P.underlying dT = some (.slice elem)) (hs : (P.info? elem).map (·.size) = some k) (hn : cs.length = Nat.min sLen dLen * k)
    (hsrc : ∀ j v, cs[j]? = some v → w.cell? (a.add j) = some v) (hc : ∀ j, j < cs.length → (w.cell? ⟨b, o + j, none⟩).isSome = true) (hf : ∀ j, j < cs.length → w.frozen? ⟨b, o + j, none⟩ = false) (h1 : ∀ v ∈ cs, v.oneCell' = true) :
    (Builtin.copy_ #[dT, sT] ty #[.slice (some ⟨b, o, none⟩) dLen dCap, .slice (some a) sLen sCap]).run P w = .ok (goInt (Nat.min sLen dLen)) (w.setCells b o cs) := by
  have hl := run_loadCells_list (P := P) w a cs hsrc
  have hst := run_storeCells_cells (P := P) b o cs 0 w (by simpa using hc) (by simpa using hf) h1
  cases hq : P.info? elem with
  | none => simp [hq] at hs
  | some i =>
    have hi : i.size = k := by simpa [hq] using hs
    simp [Builtin.copy_, run_underlying hu, Builtin.lenOf, Builtin.firstCells, sizeOf, typeInfo, hq, hi, ← hn, hl, hst]

theorem wpList_copyK {P : Program} (w : World) {ops : Array Oper} {rest : List Oper} {o : Oper} {a : Act} {Q : Exit → Act → World → Prop} (hgd : o.guard = none) (d s : Operand) (t t' : TypeId)
    (ho : o.op = .call { callee := .builtin .copy, args := #[d, s], argTypes := #[t, t'] }) (v u : Value) (hd : a.eval d = v) (hs : a.eval s = u) {v' : Value} {w' : World}
    (hr : (Builtin.copy_ #[t, t'] o.type #[v, u]).run P w = .ok v' w') (h : wpList P ops Q rest (a.put o.dst v') w') : wpList P ops Q (o :: rest) a w := by
  refine wpList_plain hgd fun K hK => ?_
  unfold Oper.wp execOp
  simp only [ho, resolve, invoke, builtin, Sem.run_bind, Sem.run_pure, Result.andThen_ok, List.map_toArray, List.map_cons, List.map_nil, hd, hs, hr]
  exact hK _ _ h

theorem wpList_apdK {P : Program} (w : World) {ops : Array Oper} {rest : List Oper} {o : Oper} {a : Act} {Q : Exit → Act → World → Prop} (hgd : o.guard = none) (d s : Operand) (t t' : TypeId)
    (ho : o.op = .call { callee := .builtin .append, args := #[d, s], argTypes := #[t, t'] }) (v u : Value) (hd : a.eval d = v) (hs : a.eval s = u) {v' : Value} {w' : World}
    (hr : (Builtin.append_ #[t, t'] o.type #[v, u]).run P w = .ok v' w') (h : wpList P ops Q rest (a.put o.dst v') w') : wpList P ops Q (o :: rest) a w := by
  refine wpList_plain hgd fun K hK => ?_
  unfold Oper.wp execOp
  simp only [ho, resolve, invoke, builtin, Sem.run_bind, Sem.run_pure, Result.andThen_ok, List.map_toArray, List.map_cons, List.map_nil, hd, hs, hr]
  exact hK _ _ h

/-- a block behind many stores into it -/
theorem heap_setCells {g : Nat} {e : TypeId} : ∀ (vs : List Value) (o : Nat) (w : World) (cur : Array Value), w.heap[g]? = some (.cells cur e (0, 0)) →
    ∃ cur' : Array Value, (w.setCells g o vs).heap[g]? = some (.cells cur' e (0, 0)) ∧ cur'.size = cur.size
  | [], _, _, cur, h => ⟨cur, h, rfl⟩
  | v :: r, o, w, cur, h => by
    rw [World.setCells]
    obtain ⟨c, h1, h2⟩ := heap_setCells r (o + 1) (w.setCell ⟨g, o, none⟩ v) (cur.setIfInBounds o v) (by
      show (w.heap.modify g _)[g]? = _
      rw [Array.getElem?_modify, if_pos rfl, h]
      rfl)
    exact ⟨c, h1, by rw [h2, Array.size_setIfInBounds]⟩
theorem isSome_setC {g : Nat} (vs : List Value) (o : Nat) (w : World) (h : ∀ j, j < vs.length → (w.cell? ⟨g, o + j, none⟩).isSome = true) (k : Nat) (hk : (w.cell? ⟨g, k, none⟩).isSome = true) : ((w.setCells g o vs).cell? ⟨g, k, none⟩).isSome = true := by
  by_cases hin : o ≤ k ∧ k < o + vs.length
  · have := World.cell?_setCells_in g vs o w h (k - o) (by omega)
    rw [show o + (k - o) = k by omega] at this
    rw [this]; rfl
  · rw [World.cell?_setCells_out g vs o w ⟨g, k, none⟩ (fun _ _ => by show k < o ∨ o + vs.length ≤ k; omega)]
    exact hk
/-- what a row is into which ys was put at p: all behind p was moved first (or laid in a new row) -/
theorem own_put {w : World} {base g cap n p k : Nat} {e : TypeId} {cur : Array Value} {xs ys : List Value} (hg : w.heap[g]? = some (.cells cur e (0, 0))) (hb : base ≤ g) (hz : cur.size = cap * k) (hc : n + 1 ≤ cap) (hm : cap ≤ maxLen) (hx : xs.length = n * k) (hy : ys.length = k) (hp : p ≤ n)
    (h1 : ∀ j, j < p * k → w.cell? ⟨g, j, none⟩ = xs[j]?) (h2 : ∀ j, j < k → w.cell? ⟨g, p * k + j, none⟩ = ys[j]?) (h3 : ∀ j, p * k + j < n * k → w.cell? ⟨g, (p + 1) * k + j, none⟩ = xs[p * k + j]?) :
    w.ownsRow base e k (.slice (some ⟨g, 0, none⟩) (n + 1) cap) (n + 1) (xs.take (p * k) ++ ys ++ xs.drop (p * k)) := by
  have hpk : p * k ≤ n * k := Nat.mul_le_mul_right _ hp
  have e1 : (n + 1) * k = n * k + k := by rw [Nat.add_mul, Nat.one_mul]
  have e2 : (p + 1) * k = p * k + k := by rw [Nat.add_mul, Nat.one_mul]
  have hck : (n + 1) * k ≤ cap * k := Nat.mul_le_mul_right _ hc
  rw [e1] at hck
  refine ⟨by simp only [List.length_append, List.length_take, List.length_drop, hx, hy, e1]; omega, .inr ⟨g, cap, cur, rfl, hb, hg, hc, hm, hz, ?_⟩⟩
  have hcell : ∀ j, j < cur.size → w.cell? ⟨g, j, none⟩ = cur[j]? := fun j hj => by simp [World.cell?, hg, hj]
  apply List.ext_getElem?
  intro j
  rw [e1, List.getElem?_take, Array.getElem?_toList]
  by_cases hj : j < n * k + k
  · rw [if_pos hj, ← hcell j (by omega)]
    by_cases j1 : j < p * k
    · rw [h1 j j1, List.append_assoc, List.getElem?_append_left (by rw [List.length_take]; omega), List.getElem?_take, if_pos j1]
    · by_cases j2 : j < p * k + k
      · have := h2 (j - p * k) (by omega)
        rw [show p * k + (j - p * k) = j by omega] at this
        rw [this, List.append_assoc, List.getElem?_append_right (by rw [List.length_take]; omega), List.length_take, show min (p * k) xs.length = p * k by omega, List.getElem?_append_left (by omega)]
      · have := h3 (j - (p * k + k)) (by omega)
        rw [e2, show p * k + k + (j - (p * k + k)) = j by omega] at this
        rw [this, List.getElem?_append_right (by rw [List.length_append, List.length_take]; omega), List.length_append, List.length_take, show min (p * k) xs.length = p * k by omega, hy, List.getElem?_drop]
  · rw [if_neg hj, List.getElem?_eq_none (by simp only [List.length_append, List.length_take, List.length_drop, hx, hy]; omega)]
theorem flat_take (R : List Cel) (p : Nat) : (R.flatMap fc).take (p * 3) = (R.take p).flatMap fc := by
  induction R generalizing p with
  | nil => simp
  | cons x r ih =>
    cases p with
    | zero => simp
    | succ p =>
      rw [List.flatMap_cons, List.take_succ_cons, List.flatMap_cons, ← ih p, List.take_append, show (fc x).length = 3 from rfl, List.take_of_length_le (by show 3 ≤ _; omega), show (p + 1) * 3 - 3 = p * 3 by omega]
theorem flat_drop (R : List Cel) (p : Nat) : (R.flatMap fc).drop (p * 3) = (R.drop p).flatMap fc := by
  induction R generalizing p with
  | nil => simp
  | cons x r ih =>
    cases p with
    | zero => simp
    | succ p =>
      rw [List.flatMap_cons, List.drop_succ_cons, ← ih p, List.drop_append, show (fc x).length = 3 from rfl, List.drop_of_length_le (by show 3 ≤ _; omega), show (p + 1) * 3 - 3 = p * 3 by omega, List.nil_append]
theorem RowF.ins {base : Nat} {w : World} {v : Value} {R : List Cel} {p : Nat} {x : Cel} (hp : p ≤ R.length) (h : w.ownsRow base 49 3 v (R.length + 1) ((R.flatMap fc).take (p * 3) ++ fc x ++ (R.flatMap fc).drop (p * 3))) : RowF base w v (R.take p ++ x :: R.drop p) := by
  unfold RowF
  rw [List.flatMap_append, List.flatMap_cons, ← flat_take, ← flat_drop, ← List.append_assoc]
  rw [show (R.take p ++ x :: R.drop p).length = R.length + 1 by simp only [List.length_append, List.length_take, List.length_cons, List.length_drop]; omega]
  exact h
theorem ins_get {R : List Cel} {p : Nat} {x : Cel} (hp : p ≤ R.length) : (R.take p ++ x :: R.drop p)[p]? = some x := by
  rw [List.getElem?_append_right (by rw [List.length_take]; omega), List.length_take, show min p R.length = p by omega, Nat.sub_self]; rfl
theorem ins_set {R : List Cel} {p : Nat} {x y : Cel} (hp : p ≤ R.length) : (R.take p ++ x :: R.drop p).set p y = R.take p ++ y :: R.drop p := by
  rw [List.set_append_right _ _ (by rw [List.length_take]; omega), List.length_take, show min p R.length = p by omega, Nat.sub_self]; rfl
theorem ins_all {R : List Cel} {p : Nat} {x : Cel} {w : World} (h : ∀ x ∈ R, OneAt w x) (hx : OneAt w x) : ∀ y ∈ R.take p ++ x :: R.drop p, OneAt w y := fun y hy => by
  rcases List.mem_append.1 hy with hy | hy
  · exact h y (List.mem_of_mem_take hy)
  · rcases List.mem_cons.1 hy with rfl | hy
    · exact hx
    · exact h y (List.mem_of_mem_drop hy)
theorem fldOf_ins {R : List Cel} {p : Nat} {x : Cel} : fldOf (R.take p ++ x :: R.drop p) = (fldOf R).take p ++ x.f :: (fldOf R).drop p := by
  simp [fldOf, List.map_take, List.map_drop]
theorem place_below {R : List Cel} {n : ByteArray} {p : Nat} {th : Bool} (h : PlaceIs R n p th) {i : Nat} (hi : i < R.length) (hip : i < p) : M.ltN ((fldOf R)[i]'(by rw [fldOf_len]; exact hi)).nm n = true := by
  rw [fldOf_get R i hi]; exact h.2.1.1 i hi hip
theorem place_above {R : List Cel} {n : ByteArray} {p : Nat} (hs : M.RisF (fldOf R)) (h : PlaceIs R n p false) {i : Nat} (hi : i < R.length) (hip : p ≤ i) : M.ltN n ((fldOf R)[i]'(by rw [fldOf_len]; exact hi)).nm = true := by
  rw [fldOf_get R i hi]
  cases h2 : M.ltN n R[i].f.nm with
  | true => rfl
  | false =>
    have e := M.ltN_tri (h.2.1.2 i hi hip) h2
    exact absurd e (M.getF_none.1 (place_none hs h) _ (List.mem_map.2 ⟨_, List.getElem_mem hi, rfl⟩))
end Go.Proofs.YtbaaeobdjiglgaaGreat
