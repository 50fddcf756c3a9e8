/-
  Rows of structs in memory, whatever their cells: as they are read, and as the call has made them itself; variables, objects and states as they lie. Conditions: none.
-/
import Derived.Test.YtbaaeobdjiglgaaGreatS12
import Derived.Test.YtbaaeobdjiglgaaGreatGA
set_option linter.unusedVariables false
set_option linter.unusedSimpArgs false
namespace Go.Proofs.YtbaaeobdjiglgaaGreat
open Go.RowKit Go.Sort

/-- all cells of W are in W', too -/
structure Ext (W W' : World) : Prop where
  size : W.heap.size ≤ W'.heap.size
  cell : ∀ b p u, W.cell? ⟨b, p, none⟩ = some u → W'.cell? ⟨b, p, none⟩ = some u
theorem Ext.refl (W : World) : Ext W W := ⟨Nat.le_refl _, fun _ _ _ h => h⟩
theorem Ext.trans {a b c : World} (h : Ext a b) (k : Ext b c) : Ext a c := ⟨Nat.le_trans h.size k.size, fun g p u e => k.cell g p u (h.cell g p u e)⟩
theorem cell_lt {w : World} {b p : Nat} {u : Value} (h : w.cell? ⟨b, p, none⟩ = some u) : b < w.heap.size := by
  refine Classical.byContradiction fun hn => ?_
  have : w.heap[b]? = none := Array.getElem?_eq_none (by omega)
  simp [World.cell?, this] at h
theorem Ext.of_below {w w' : World} (h : Below w.heap.size w w') : Ext w w' := ⟨h.size, fun b p u e => by rw [h.cell (p := ⟨b, p, none⟩) (cell_lt e)]; exact e⟩
theorem AtAt.ext {w w' : World} {v : Value} {l : List M.Atm} (h : AtAt w v l) (he : Ext w w') : AtAt w' v l := by
  obtain ⟨h0, a, cap, rfl, h1⟩ := h
  refine ⟨h0, a, cap, rfl, ?_⟩
  rcases h1 with h1 | ⟨b, o, rfl, hlt, hr, hc⟩
  · exact .inl h1
  · exact .inr ⟨b, o, rfl, Nat.lt_of_lt_of_le hlt he.size, hr, fun i hi => ⟨he.cell _ _ _ (hc i hi).1, he.cell _ _ _ (hc i hi).2⟩⟩
theorem RsAt.ext {w w' : World} {v : Value} {R : List Cel} (h : RsAt w v R) (he : Ext w w') : RsAt w' v R := by
  obtain ⟨h0, a, cap, rfl, h1⟩ := h
  refine ⟨fun x hx => (h0 x hx).ext he, a, cap, rfl, ?_⟩
  rcases h1 with h1 | ⟨b, o, rfl, hlt, hr, hc⟩
  · exact .inl h1
  · exact .inr ⟨b, o, rfl, Nat.lt_of_lt_of_le hlt he.size, hr, fun i hi => ⟨he.cell _ _ _ (hc i hi).1, he.cell _ _ _ (hc i hi).2.1, he.cell _ _ _ (hc i hi).2.2⟩⟩
theorem ShAt.ext {w w' : World} {v : Value} {s : M.Shp} (h : ShAt w v s) (he : Ext w w') : ShAt w' v s := by
  obtain ⟨vf, vp, e, ⟨R, h1, h2⟩, h3⟩ := h
  exact ⟨vf, vp, e, ⟨R, h1, h2.ext he⟩, h3.ext he⟩

/-- the world without what some blocks hold -/
def hole (S : Nat → Bool) (w : World) : World := { w with heap := w.heap.mapIdx fun i o => if S i then .cells #[] 0 (0, 0) else o }
theorem hole_size (S : Nat → Bool) (w : World) : (hole S w).heap.size = w.heap.size := by simp [hole]
theorem hole_other {S : Nat → Bool} {k : Nat} {w : World} (h : S k = false) : (hole S w).heap[k]? = w.heap[k]? := by
  show (w.heap.mapIdx _)[k]? = _
  rw [Array.getElem?_mapIdx]
  cases w.heap[k]? with
  | none => rfl
  | some o => simp [h]
theorem hole_cell {S : Nat → Bool} {b p : Nat} {w : World} {u : Value} (h : (hole S w).cell? ⟨b, p, none⟩ = some u) : S b = false ∧ w.cell? ⟨b, p, none⟩ = some u := by
  cases e : S b with
  | true =>
    have hl := cell_lt h
    rw [hole_size] at hl
    have : (hole S w).heap[b]? = some (.cells #[] 0 (0, 0)) := by
      show (w.heap.mapIdx _)[b]? = _
      rw [Array.getElem?_mapIdx, Array.getElem?_eq_getElem hl]
      simp [e]
    rw [Lib.cell_of_heap this] at h
    simp at h
  | false =>
    refine ⟨rfl, ?_⟩
    rw [World.cell?_of_block (w := w) (w' := hole S w) (a := ⟨b, p, none⟩) (hole_other e)] at h
    exact h
theorem cell_hole {S : Nat → Bool} {b p : Nat} {w : World} {u : Value} (hS : S b = false) (h : w.cell? ⟨b, p, none⟩ = some u) : (hole S w).cell? ⟨b, p, none⟩ = some u := by
  rw [World.cell?_of_block (w := w) (w' := hole S w) (a := ⟨b, p, none⟩) (hole_other hS)]; exact h
theorem Ext.hole (S : Nat → Bool) (w : World) : Ext (hole S w) w := ⟨by rw [hole_size]; exact Nat.le_refl _, fun b p u h => (hole_cell h).2⟩
/-- what lies in the world without some blocks lies there still, in what came of it, without these, others of them alone having turned -/
theorem Ext.off {S S' : Nat → Bool} {w w' : World} (hz : w.heap.size ≤ w'.heap.size) (h : ∀ k, k < w.heap.size → S k = false → w'.heap[k]? = w.heap[k]?) (hS : ∀ k, k < w.heap.size → S k = false → S' k = false) : Ext (Proofs.YtbaaeobdjiglgaaGreat.hole S w) (Proofs.YtbaaeobdjiglgaaGreat.hole S' w') := by
  refine ⟨by rw [hole_size, hole_size]; exact hz, fun b p u e => ?_⟩
  have hlt := cell_lt e
  rw [hole_size] at hlt
  obtain ⟨e1, e2⟩ := hole_cell e
  refine cell_hole (hS b hlt e1) ?_
  rw [World.cell?_of_block (w := w) (w' := w') (a := ⟨b, p, none⟩) (h b hlt e1)]; exact e2
theorem Ext.offB {S S' : Nat → Bool} {w w' : World} (h : Below w.heap.size w w') (hS : ∀ k, k < w.heap.size → S k = false → S' k = false) : Ext (Proofs.YtbaaeobdjiglgaaGreat.hole S w) (Proofs.YtbaaeobdjiglgaaGreat.hole S' w') := Ext.off h.size (fun k hk _ => h.block k hk) hS
theorem Ext.holes {S S' : Nat → Bool} (w : World) (hS : ∀ k, S k = false → S' k = false) : Ext (Proofs.YtbaaeobdjiglgaaGreat.hole S w) (Proofs.YtbaaeobdjiglgaaGreat.hole S' w) := Ext.off (Nat.le_refl _) (fun _ _ _ => rfl) (fun k _ h => hS k h)
/-- what lay there ahead of the blocks lies in the world without them -/
theorem Ext.into {S : Nat → Bool} {w w' : World} (h : Below w.heap.size w w') (hS : ∀ k, k < w.heap.size → S k = false) : Ext w (Proofs.YtbaaeobdjiglgaaGreat.hole S w') := by
  refine ⟨by rw [hole_size]; exact h.size, fun b p u e => ?_⟩
  have hlt := cell_lt e
  refine cell_hole (hS b hlt) ?_
  rw [h.cell (p := ⟨b, p, none⟩) hlt]; exact e
/-- the block of a row of one's own -/
def ownB (v : Value) : Nat → Bool := fun k => decide (v.ownBlock = some k)
/-- all blocks ahead of one -/
def oldB (n : Nat) : Nat → Bool := fun k => decide (k < n)
theorem ownB_not {v : Value} {k : Nat} (h : ownB v k = false) : v.ownBlock ≠ some k := fun e => by unfold ownB at h; rw [decide_eq_true e] at h; cases h
theorem ownB_no {v : Value} {k : Nat} (h : v.ownBlock ≠ some k) : ownB v k = false := decide_eq_false h
theorem ownB_g {g n c k : Nat} (h : ownB (.slice (some ⟨g, 0, none⟩) n c) k = false) : k ≠ g := fun e => by
  subst e
  exact ownB_not h rfl
theorem ownB_ng {g n c k : Nat} (h : k ≠ g) : ownB (.slice (some ⟨g, 0, none⟩) n c) k = false := ownB_no fun e => h (by
  have := Option.some.inj e
  exact this.symm)
theorem oldB_not {n k : Nat} (h : oldB n k = false) : n ≤ k := by unfold oldB at h; simpa using h
theorem oldB_no {n k : Nat} (h : n ≤ k) : oldB n k = false := by unfold oldB; simpa using h
/-- atoms in a block that is none of these -/
theorem AtAt.hole {S : Nat → Bool} {w : World} {v : Value} {l : List M.Atm} (h : AtAt w v l) (hS : ∀ b o s n c, v = .slice (some ⟨b, o, s⟩) n c → S b = false) : AtAt (Proofs.YtbaaeobdjiglgaaGreat.hole S w) v l := by
  obtain ⟨h0, a, cap, rfl, h1⟩ := h
  refine ⟨h0, a, cap, rfl, ?_⟩
  rcases h1 with h1 | ⟨b, o, rfl, hlt, hr, hc⟩
  · exact .inl h1
  · have hb := hS b o none _ _ rfl
    exact .inr ⟨b, o, rfl, by rw [hole_size]; exact hlt, hr, fun i hi => ⟨cell_hole hb (hc i hi).1, cell_hole hb (hc i hi).2⟩⟩
theorem AtAt.fresh {base : Nat} {w : World} {v : Value} {l : List M.Atm} (h : AtAt w v l) (hf : Fresh base v) : AtAt (Proofs.YtbaaeobdjiglgaaGreat.hole (oldB base) w) v l := h.hole fun b o s n c e => oldB_no (hf b o s n c e)
/-- a shape that lies in new blocks alone -/
def ShFr (base : Nat) (w : World) (v : Value) (s : M.Shp) : Prop := ShAt (hole (oldB base) w) v s
theorem ShFr.at {base : Nat} {w : World} {v : Value} {s : M.Shp} (h : ShFr base w v s) : ShAt w v s := ShAt.ext h (Ext.hole _ _)
theorem ShFr.bel {base : Nat} {w w' : World} {v : Value} {s : M.Shp} (h : ShFr base w v s) (hb : Below w.heap.size w w') : ShFr base w' v s := ShAt.ext h (Ext.offB hb fun _ _ h => h)
theorem ShFr.mono {base base' : Nat} {w : World} {v : Value} {s : M.Shp} (h : ShFr base w v s) (hb : base' ≤ base) : ShFr base' w v s := ShAt.ext h (Ext.holes _ fun k h => oldB_no (Nat.le_trans hb (oldB_not h)))
/-- stores into blocks that were there ahead leave it as it is -/
theorem ShFr.set {base g p : Nat} {w : World} {v u : Value} {s : M.Shp} (h : ShFr base w v s) (hg : g < base) : ShFr base (w.setCell ⟨g, p, none⟩ u) v s :=
  ShAt.ext h (Ext.off (by simp [World.setCell]) (fun k hk hS => set_blk w g p u k (by have := oldB_not hS; omega)) fun _ _ h => h)
theorem FsNew.fresh {base : Nat} {w : World} {v : Value} {R : List Cel} (h : RowF base w v R) (hf : ∀ x ∈ R, OneAt w x ∧ Fresh base x.v) : RsAt (Proofs.YtbaaeobdjiglgaaGreat.hole (oldB base) w) v R := by
  refine ⟨fun x hx => AtAt.fresh (hf x hx).1 (hf x hx).2, ?_⟩
  rcases owns_form3 h with ⟨rfl, h0⟩ | ⟨g, cap, rfl⟩
  · exact ⟨none, 0, by rw [h0], .inl (List.length_eq_zero_iff.1 h0)⟩
  · obtain ⟨h1, h2, h3, h4, h5, h6⟩ := RowF.tri h
    refine ⟨_, _, rfl, .inr ⟨g, 0, rfl, by rw [hole_size]; exact h2, ⟨h4, h5⟩, fun i hi => ?_⟩⟩
    rw [Nat.zero_add]
    obtain ⟨t1, t2, t3⟩ := h1 i hi
    exact ⟨cell_hole (oldB_no h3) t1, cell_hole (oldB_no h3) t2, cell_hole (oldB_no h3) t3⟩

section
variable {α : Type}
/-- the slice v is a row of structs of k cells each -/
def AtK (k : Nat) (c : α → List Value) (w : World) (v : Value) (R : List α) : Prop :=
  ∃ a cap, v = .slice a R.length cap ∧ (R = [] ∨ ∃ b o, a = some ⟨b, o, none⟩ ∧ b < w.heap.size ∧ (R.length ≤ cap ∧ cap ≤ maxLen) ∧ ∀ i (h : i < R.length) t u, (c R[i])[t]? = some u → w.cell? ⟨b, o + i * k + t, none⟩ = some u)
variable {k : Nat} {c : α → List Value}
theorem AtK.ext {w w' : World} {v : Value} {R : List α} (h : AtK k c w v R) (he : Ext w w') : AtK k c w' v R := by
  obtain ⟨a, cap, rfl, h1⟩ := h
  refine ⟨a, cap, rfl, ?_⟩
  rcases h1 with h1 | ⟨b, o, rfl, hlt, hr, hc⟩
  · exact .inl h1
  · exact .inr ⟨b, o, rfl, Nat.lt_of_lt_of_le hlt he.size, hr, fun i hi t u hu => he.cell _ _ _ (hc i hi t u hu)⟩
theorem AtK.form {w : World} {v : Value} {R : List α} (h : AtK k c w v R) : ∃ a cap, v = .slice a R.length cap := by
  obtain ⟨a, cap, rfl, _⟩ := h
  exact ⟨a, cap, rfl⟩
theorem AtK.nil (w : World) : AtK k c w (.slice none 0 0) ([] : List α) := ⟨none, 0, rfl, .inl rfl⟩
theorem AtK.open {w : World} {a : Option Addr} {n cap : Nat} {R : List α} (h : AtK k c w (.slice a n cap) R) {j : Nat} (hj : j < R.length) :
    ∃ b o, a = some ⟨b, o, none⟩ ∧ b < w.heap.size ∧ ∀ i (h : i < R.length) t u, (c R[i])[t]? = some u → w.cell? ⟨b, o + i * k + t, none⟩ = some u := by
  obtain ⟨a', cap', e, h1⟩ := h
  simp only [Value.slice.injEq] at e
  obtain ⟨rfl, _, _⟩ := e
  rcases h1 with h1 | ⟨b, o, e, hlt, _, hc⟩
  · subst h1; simp at hj
  · exact ⟨b, o, e, hlt, hc⟩
theorem flat_lenK (hc : ∀ x, (c x).length = k) : ∀ R : List α, (R.flatMap c).length = R.length * k
  | [] => by simp
  | x :: r => by rw [List.flatMap_cons, List.length_append, flat_lenK hc r, hc, List.length_cons, Nat.add_mul, Nat.one_mul]; omega
theorem flat_getK (hc : ∀ x, (c x).length = k) : ∀ (R : List α) (i t : Nat) (h : i < R.length), t < k → (R.flatMap c)[i * k + t]? = (c R[i])[t]?
  | [], i, _, h, _ => absurd h (by simp)
  | x :: r, 0, t, h, ht => by rw [List.flatMap_cons, Nat.zero_mul, Nat.zero_add, List.getElem?_append_left (by rw [hc]; exact ht)]; rfl
  | x :: r, i + 1, t, h, ht => by
    rw [List.flatMap_cons, Nat.add_mul, Nat.one_mul, List.getElem?_append_right (by rw [hc]; omega), hc, show i * k + k + t - k = i * k + t by omega, flat_getK hc r i t (by simpa using h) ht]
    rfl
theorem AtK.flat {w : World} {b o : Nat} {R : List α} (hk : ∀ x, (c x).length = k) (hc : ∀ i (h : i < R.length) t u, (c R[i])[t]? = some u → w.cell? ⟨b, o + i * k + t, none⟩ = some u) : ∀ j u, (R.flatMap c)[j]? = some u → w.cell? ⟨b, o + j, none⟩ = some u := by
  intro j u hu
  have hj : j < R.length * k := by
    have := (List.getElem?_eq_some_iff.1 hu).1
    rw [flat_lenK hk] at this; exact this
  have hk0 : 0 < k := by
    rcases Nat.eq_zero_or_pos k with e | e
    · subst e; simp at hj
    · exact e
  have hi : j / k < R.length := Nat.div_lt_of_lt_mul (by rw [Nat.mul_comm]; exact hj)
  have ht : j % k < k := Nat.mod_lt _ hk0
  have e : j / k * k + j % k = j := by rw [Nat.mul_comm]; exact Nat.div_add_mod j k
  have := flat_getK hk R (j / k) (j % k) hi ht
  rw [e, hu] at this
  have h2 := hc (j / k) hi (j % k) u this.symm
  rw [Nat.add_assoc, e] at h2
  exact h2
theorem flat_setK (hc : ∀ x, (c x).length = k) : ∀ (R : List α) (j t : Nat) (x : α) (u : Value) (hj : j < R.length), t < k → (c R[j]).set t u = c x → (R.flatMap c).set (j * k + t) u = (R.set j x).flatMap c
  | [], j, _, _, _, hj, _, _ => absurd hj (by simp)
  | y :: r, 0, t, x, u, hj, ht, e => by
    have e' : (c y).set t u = c x := e
    rw [List.flatMap_cons, List.set_cons_zero, List.flatMap_cons, ← e', List.set_append_left _ _ (by rw [hc]; omega), show 0 * k + t = t by omega]
  | y :: r, j + 1, t, x, u, hj, ht, e => by
    have e' : (c (r[j]'(by simpa using hj))).set t u = c x := e
    rw [List.flatMap_cons, List.set_cons_succ, List.flatMap_cons, List.set_append_right _ _ (by rw [hc, Nat.add_mul]; omega), hc, show (j + 1) * k + t - k = j * k + t by rw [Nat.add_mul]; omega, flat_setK hc r j t x u (by simpa using hj) ht e']
theorem flat_takeK (hc : ∀ x, (c x).length = k) : ∀ (R : List α) (p : Nat), (R.flatMap c).take (p * k) = (R.take p).flatMap c
  | [], p => by simp
  | x :: r, 0 => by simp
  | x :: r, p + 1 => by
    rw [List.flatMap_cons, List.take_succ_cons, List.flatMap_cons, ← flat_takeK hc r p, List.take_append, hc, List.take_of_length_le (by rw [hc, Nat.add_mul]; omega), show (p + 1) * k - k = p * k by rw [Nat.add_mul]; omega]
theorem flat_dropK (hc : ∀ x, (c x).length = k) : ∀ (R : List α) (p : Nat), (R.flatMap c).drop (p * k) = (R.drop p).flatMap c
  | [], p => by simp
  | x :: r, 0 => by simp
  | x :: r, p + 1 => by
    rw [List.flatMap_cons, List.drop_succ_cons, ← flat_dropK hc r p, List.drop_append, hc, List.drop_of_length_le (by rw [hc, Nat.add_mul]; omega), show (p + 1) * k - k = p * k by rw [Nat.add_mul]; omega, List.nil_append]
theorem flat_oneK (h1 : ∀ x, ∀ u ∈ c x, u.oneCell' = true) (R : List α) : ∀ u ∈ R.flatMap c, u.oneCell' = true := by
  intro u hu
  obtain ⟨x, _, hx⟩ := List.mem_flatMap.1 hu
  exact h1 x u hx

/-- a row of the call's own -/
def RowK (e : TypeId) (k : Nat) (c : α → List Value) (base : Nat) (w : World) (v : Value) (R : List α) : Prop := w.ownsRow base e k v R.length (R.flatMap c)
variable {e : TypeId}
theorem owns_formK {w : World} {base n size : Nat} {v : Value} {xs : List Value} (h : w.ownsRow base e size v n xs) : (v = .slice none 0 0 ∧ n = 0) ∨ ∃ g cap, v = .slice (some ⟨g, 0, none⟩) n cap ∧ base ≤ g ∧ g < w.heap.size ∧ n ≤ cap ∧ cap ≤ maxLen := by
  rcases h.2 with h | ⟨g, cap, cur, hv, hb, hh, h1, h2, _⟩
  · exact .inl h
  · exact .inr ⟨g, cap, hv, hb, (Array.getElem?_eq_some_iff.1 hh).1, h1, h2⟩
theorem RowK.form {base : Nat} {w : World} {v : Value} {R : List α} (h : RowK e k c base w v R) : ∃ q m, v = .slice q R.length m := by
  rcases owns_formK h with ⟨rfl, h0⟩ | ⟨g, cap, rfl, _⟩
  · rw [h0]; exact ⟨_, _, rfl⟩
  · exact ⟨_, _, rfl⟩
theorem RowK.keep {base : Nat} {w w' : World} {v : Value} {R : List α} (h : RowK e k c base w v R) (hb : Below w.heap.size w w') : RowK e k c base w' v R := owns_keep h hb
theorem RowK.blk {base : Nat} {w : World} {v : Value} {R : List α} (h : RowK e k c base w v R) : ∀ g, v.ownBlock = some g → base ≤ g ∧ g < w.heap.size := fun g hg => h.lt g hg
theorem RowK.cells {base : Nat} {w : World} {g n cap : Nat} {R : List α} (hc : ∀ x, (c x).length = k) (h : RowK e k c base w (.slice (some ⟨g, 0, none⟩) n cap) R) :
    (∀ i (h : i < R.length) t u, (c R[i])[t]? = some u → w.cell? ⟨g, i * k + t, none⟩ = some u) ∧ g < w.heap.size ∧ base ≤ g ∧ R.length ≤ cap ∧ cap ≤ maxLen ∧ ∀ i, w.frozen? ⟨g, i, none⟩ = false := by
  rcases h.2 with ⟨hv, _⟩ | ⟨g', cap', cur, hv, hb, hh, hc1, hc2, hc3, hc4⟩
  · cases hv
  · simp only [Value.slice.injEq, Option.some.injEq, Addr.mk.injEq, and_true, true_and] at hv
    obtain ⟨rfl, rfl, rfl⟩ := hv
    refine ⟨fun i hi t u hu => ?_, (Array.getElem?_eq_some_iff.1 hh).1, hb, hc1, hc2, fun i => Lib.frozen_of_heap hh i⟩
    have ht : t < k := by rw [← hc R[i]]; exact (List.getElem?_eq_some_iff.1 hu).1
    have e1 := flat_getK hc R i t hi ht
    rw [hu, ← hc4, List.getElem?_take] at e1
    refine cell_cur hh ?_
    split at e1
    · simpa using e1
    · cases e1
theorem RowK.at {base : Nat} {w : World} {v : Value} {R : List α} (hc : ∀ x, (c x).length = k) (h : RowK e k c base w v R) : AtK k c w v R := by
  rcases owns_formK h with ⟨rfl, h0⟩ | ⟨g, cap, rfl, _⟩
  · have : R = [] := List.length_eq_zero_iff.1 h0
    subst this
    exact AtK.nil w
  · obtain ⟨h1, h2, h3, h4, h5, h6⟩ := RowK.cells hc h
    exact ⟨_, _, rfl, .inr ⟨g, 0, rfl, h2, ⟨h4, h5⟩, fun i hi t u hu => by rw [Nat.zero_add]; exact h1 i hi t u hu⟩⟩
theorem RowK.nil (w : World) (base : Nat) : RowK e k c base w (.slice none 0 0) ([] : List α) := World.ownsRow_nil _ _ _ _
theorem RowK.new (w : World) (base : Nat) (hb : base ≤ w.heap.size) : RowK e k c base (w.alloc (.cells #[] e)) (.slice (some ⟨w.heap.size, 0, none⟩) 0 0) ([] : List α) :=
  World.ownsRow_lit (base := base) (e := e) (size := k) w #[] 0 hb (by simp [maxLen]) (by simp)
theorem RowK.snoc {base : Nat} {w : World} {v : Value} {R : List α} {x : α} (h : w.ownsRow base e k v (R.length + 1) (R.flatMap c ++ c x)) : RowK e k c base w v (R ++ [x]) := by
  unfold RowK
  rw [List.flatMap_append, List.length_append]
  simpa using h
theorem RowK.mono {base base' : Nat} {w : World} {v : Value} {R : List α} (h : RowK e k c base w v R) (hb : base' ≤ base) : RowK e k c base' w v R := by
  refine ⟨h.1, ?_⟩
  rcases h.2 with h | ⟨g', cap', cur, hv, hb', hr⟩
  · exact .inl h
  · exact .inr ⟨g', cap', cur, hv, Nat.le_trans hb hb', hr⟩
theorem RowK.ins {base : Nat} {w : World} {v : Value} {R : List α} {p : Nat} {x : α} (hc : ∀ x, (c x).length = k) (hp : p ≤ R.length) (h : w.ownsRow base e k v (R.length + 1) ((R.flatMap c).take (p * k) ++ c x ++ (R.flatMap c).drop (p * k))) : RowK e k c base w v (R.take p ++ x :: R.drop p) := by
  unfold RowK
  rw [List.flatMap_append, List.flatMap_cons, ← flat_takeK hc, ← flat_dropK hc, ← List.append_assoc]
  rw [show (R.take p ++ x :: R.drop p).length = R.length + 1 by simp only [List.length_append, List.length_take, List.length_cons, List.length_drop]; omega]
  exact h
/-- one cell of an element is another one now -/
theorem RowK.set1 {base : Nat} {w : World} {g cap j t n : Nat} {u : Value} {R : List α} (hc : ∀ x, (c x).length = k) (h : RowK e k c base w (.slice (some ⟨g, 0, none⟩) n cap) R) (hj : j < R.length) (x : α) (ht : t < k) (hx : (c R[j]).set t u = c x) :
    RowK e k c base (w.setCell ⟨g, j * k + t, none⟩ u) (.slice (some ⟨g, 0, none⟩) n cap) (R.set j x) := by
  have hn : n = R.length := by
    rcases owns_formK h with ⟨e, _⟩ | ⟨g', cap', e, _⟩
    · cases e
    · simp only [Value.slice.injEq] at e; exact e.2.1
  subst hn
  unfold RowK
  rw [List.length_set, ← flat_setK hc R j t x u hj ht hx]
  exact own_set h
end

/-! Variables and objects. -/
/-- a variable as it lies -/
structure Bnd where
  nm : ByteArray
  vs : List M.Atm
  a : Option Addr
  c : Nat
  deriving Inhabited
def Bnd.v (x : Bnd) : Value := .slice x.a x.vs.length x.c
def bc (x : Bnd) : List Value := [.string x.nm, .slice x.a x.vs.length x.c]
def bv (x : Bnd) : Value := .agg #[.string x.nm, .slice x.a x.vs.length x.c]
theorem bc_len (x : Bnd) : (bc x).length = 2 := rfl
theorem bc_one (x : Bnd) : ∀ u ∈ bc x, u.oneCell' = true := by
  intro u hu; simp [bc] at hu; rcases hu with rfl | rfl <;> rfl
def Bnd.p (x : Bnd) : ByteArray × List M.Atm := (x.nm, x.vs)
def OneB (w : World) (x : Bnd) : Prop := AtAt w x.v x.vs
theorem OneB.ext {w w' : World} {x : Bnd} (h : OneB w x) (he : Ext w w') : OneB w' x := AtAt.ext h he
/-- an object as it lies -/
structure Lcl where
  x : M.Atm
  s : M.Shp
  fa : Option Addr
  fn : Nat
  pa : Option Addr
  pn : Nat
def Lcl.f (l : Lcl) : Value := .slice l.fa l.s.fs.length l.fn
def Lcl.pr (l : Lcl) : Value := .slice l.pa l.s.pr.length l.pn
def Lcl.v (l : Lcl) : Value := .agg #[.slice l.fa l.s.fs.length l.fn, .slice l.pa l.s.pr.length l.pn]
def lc (l : Lcl) : List Value := [.int .i64 l.x.k, .int .i64 l.x.n, .slice l.fa l.s.fs.length l.fn, .slice l.pa l.s.pr.length l.pn]
def lv (l : Lcl) : Value := .agg #[.int .i64 l.x.k, .int .i64 l.x.n, .slice l.fa l.s.fs.length l.fn, .slice l.pa l.s.pr.length l.pn]
theorem lc_len (x : Lcl) : (lc x).length = 4 := rfl
theorem lc_one (x : Lcl) : ∀ u ∈ lc x, u.oneCell' = true := by
  intro u hu; simp [lc] at hu; rcases hu with rfl | rfl | rfl | rfl <;> rfl
def Lcl.p (l : Lcl) : M.Atm × M.Shp := (l.x, l.s)
def OneL (w : World) (l : Lcl) : Prop := InR l.x.n ∧ ShAt w l.v l.s
theorem OneL.ext {w w' : World} {x : Lcl} (h : OneL w x) (he : Ext w w') : OneL w' x := ⟨h.1, ShAt.ext h.2 he⟩
def bndOf (B : List Bnd) : List (ByteArray × List M.Atm) := B.map Bnd.p
def lclOf (L : List Lcl) : List (M.Atm × M.Shp) := L.map Lcl.p
theorem bndOf_len (R : List Bnd) : (bndOf R).length = R.length := List.length_map ..
theorem lclOf_len (R : List Lcl) : (lclOf R).length = R.length := List.length_map ..
/-- variables, as they are read -/
def BsAt (w : World) (v : Value) (B : List Bnd) : Prop := AtK 2 bc w v B ∧ ∀ x ∈ B, OneB w x
def LsAt (w : World) (v : Value) (L : List Lcl) : Prop := AtK 4 lc w v L ∧ ∀ x ∈ L, OneL w x
theorem BsAt.ext {w w' : World} {v : Value} {B : List Bnd} (h : BsAt w v B) (he : Ext w w') : BsAt w' v B := ⟨h.1.ext he, fun x hx => (h.2 x hx).ext he⟩
theorem LsAt.ext {w w' : World} {v : Value} {B : List Lcl} (h : LsAt w v B) (he : Ext w w') : LsAt w' v B := ⟨h.1.ext he, fun x hx => (h.2 x hx).ext he⟩
theorem BsAt.bel {w w' : World} {v : Value} {B : List Bnd} (h : BsAt w v B) (hb : Below w.heap.size w w') : BsAt w' v B := h.ext (Ext.of_below hb)
theorem LsAt.bel {w w' : World} {v : Value} {B : List Lcl} (h : LsAt w v B) (hb : Below w.heap.size w w') : LsAt w' v B := h.ext (Ext.of_below hb)
/-- a state, as it is read -/
def StAt (w : World) (v : Value) (s : M.Sta) : Prop := ∃ vb vl B L, v = .agg #[.bool s.dead, vb, vl] ∧ bndOf B = s.vs ∧ lclOf L = s.ls ∧ BsAt w vb B ∧ LsAt w vl L
theorem StAt.ext {w w' : World} {v : Value} {s : M.Sta} (h : StAt w v s) (he : Ext w w') : StAt w' v s := by
  obtain ⟨vb, vl, B, L, h1, h2, h3, h4, h5⟩ := h
  exact ⟨vb, vl, B, L, h1, h2, h3, h4.ext he, h5.ext he⟩
theorem StAt.bel {w w' : World} {v : Value} {s : M.Sta} (h : StAt w v s) (hb : Below w.heap.size w w') : StAt w' v s := h.ext (Ext.of_below hb)
theorem StAt.form {w : World} {v : Value} {s : M.Sta} (h : StAt w v s) : ∃ a c b d, v = .agg #[.bool s.dead, .slice a s.vs.length c, .slice b s.ls.length d] := by
  obtain ⟨vb, vl, B, L, rfl, h2, h3, h4, h5⟩ := h
  obtain ⟨a, c, rfl⟩ := h4.1.form
  obtain ⟨b, d, rfl⟩ := h5.1.form
  exact ⟨a, c, b, d, by rw [← h2, ← h3, bndOf_len, lclOf_len]⟩
theorem StAt.open {w : World} {v : Value} {s : M.Sta} (h : StAt w v s) : ∃ B L a c b d, s = ⟨s.dead, bndOf B, lclOf L⟩ ∧ v = .agg #[.bool s.dead, .slice a B.length c, .slice b L.length d] ∧ BsAt w (.slice a B.length c) B ∧ LsAt w (.slice b L.length d) L := by
  obtain ⟨vb, vl, B, L, rfl, h2, h3, h4, h5⟩ := h
  obtain ⟨a, c, rfl⟩ := h4.1.form
  obtain ⟨b, d, rfl⟩ := h5.1.form
  exact ⟨B, L, a, c, b, d, by rw [h2, h3], rfl, h4, h5⟩
theorem StAt.parts {w : World} {s : M.Sta} {dd : Bool} {a b : Option Addr} {n c m d : Nat} (h : StAt w (.agg #[.bool dd, .slice a n c, .slice b m d]) s) : ∃ B L, s = ⟨dd, bndOf B, lclOf L⟩ ∧ n = B.length ∧ m = L.length ∧ BsAt w (.slice a n c) B ∧ LsAt w (.slice b m d) L := by
  obtain ⟨vb, vl, B, L, e, h2, h3, h4, h5⟩ := h
  simp only [Value.agg.injEq, Array.mk.injEq, List.cons.injEq, and_true, Value.bool.injEq] at e
  obtain ⟨rfl, rfl, rfl⟩ := e
  obtain ⟨a', c', e1⟩ := h4.1.form
  obtain ⟨b', d', e2⟩ := h5.1.form
  simp only [Value.slice.injEq] at e1 e2
  exact ⟨B, L, by rw [h2, h3], e1.2.1, e2.2.1, h4, h5⟩
theorem Bs_some {w : World} {a : Option Addr} {n cap : Nat} {B : List Bnd} (h : BsAt w (.slice a n cap) B) {j : Nat} (hj : j < B.length) :
    ∃ b o, a = some ⟨b, o, none⟩ ∧ b < w.heap.size ∧ ∀ i (h : i < B.length), w.cell? ⟨b, o + i * 2, none⟩ = some (.string B[i].nm) ∧ w.cell? ⟨b, o + i * 2 + 1, none⟩ = some (.slice B[i].a B[i].vs.length B[i].c) := by
  obtain ⟨b, o, e, hlt, hc⟩ := h.1.open hj
  exact ⟨b, o, e, hlt, fun i hi => ⟨hc i hi 0 _ rfl, hc i hi 1 _ rfl⟩⟩
theorem Ls_some {w : World} {a : Option Addr} {n cap : Nat} {B : List Lcl} (h : LsAt w (.slice a n cap) B) {j : Nat} (hj : j < B.length) :
    ∃ b o, a = some ⟨b, o, none⟩ ∧ b < w.heap.size ∧ ∀ i (h : i < B.length), w.cell? ⟨b, o + i * 4, none⟩ = some (.int .i64 B[i].x.k) ∧ w.cell? ⟨b, o + i * 4 + 1, none⟩ = some (.int .i64 B[i].x.n) ∧ w.cell? ⟨b, o + i * 4 + 2, none⟩ = some (.slice B[i].fa B[i].s.fs.length B[i].fn) ∧ w.cell? ⟨b, o + i * 4 + 3, none⟩ = some (.slice B[i].pa B[i].s.pr.length B[i].pn) := by
  obtain ⟨b, o, e, hlt, hc⟩ := h.1.open hj
  exact ⟨b, o, e, hlt, fun i hi => ⟨hc i hi 0 _ rfl, hc i hi 1 _ rfl, hc i hi 2 _ rfl, hc i hi 3 _ rfl⟩⟩

/-! Rows of one's own, with what their elements speak of elsewhere. -/
def RowB (base : Nat) (w : World) (v : Value) (B : List Bnd) : Prop := RowK 47 2 bc base w v B ∧ ∀ x ∈ B, OneB (hole (ownB v) w) x
def RowL (base : Nat) (w : World) (v : Value) (L : List Lcl) : Prop := RowK 36 4 lc base w v L ∧ ∀ x ∈ L, OneL (hole (ownB v) w) x
theorem RowB.at {base : Nat} {w : World} {v : Value} {B : List Bnd} (h : RowB base w v B) : BsAt w v B := ⟨h.1.at bc_len, fun x hx => (h.2 x hx).ext (Ext.hole _ _)⟩
theorem RowL.at {base : Nat} {w : World} {v : Value} {B : List Lcl} (h : RowL base w v B) : LsAt w v B := ⟨h.1.at lc_len, fun x hx => (h.2 x hx).ext (Ext.hole _ _)⟩
theorem RowB.keep {base : Nat} {w w' : World} {v : Value} {B : List Bnd} (h : RowB base w v B) (hb : Below w.heap.size w w') : RowB base w' v B := ⟨h.1.keep hb, fun x hx => (h.2 x hx).ext (Ext.offB hb fun _ _ h => h)⟩
theorem RowL.keep {base : Nat} {w w' : World} {v : Value} {B : List Lcl} (h : RowL base w v B) (hb : Below w.heap.size w w') : RowL base w' v B := ⟨h.1.keep hb, fun x hx => (h.2 x hx).ext (Ext.offB hb fun _ _ h => h)⟩
theorem RowB.nil (w : World) (base : Nat) : RowB base w (.slice none 0 0) [] := ⟨RowK.nil w base, fun x hx => by cases hx⟩
theorem RowL.nil (w : World) (base : Nat) : RowL base w (.slice none 0 0) [] := ⟨RowK.nil w base, fun x hx => by cases hx⟩
theorem infoBind : (Tryz.prog.info? 47).map (fun i => (i.zero, i.size, i.bytes)) = some (some (.agg #[.string ⟨#[]⟩, .slice none 0 0]), 2, 40) := by kernel_rfl
theorem infoLoc : (Tryz.prog.info? 36).map (fun i => (i.zero, i.size, i.bytes)) = some (some (.agg #[.int .i64 0, .int .i64 0, .slice none 0 0, .slice none 0 0]), 4, 64) := by kernel_rfl
end Go.Proofs.YtbaaeobdjiglgaaGreat
