/-
  Appends to rows of variables and of objects of the call's own, in a region whose order is open; rows whose elements lie in new blocks; the walks of demote.newest and demote.older. Conditions: none.
-/
import Derived.Test.YtbaaeobdjiglgaaGreatGK
import Derived.Maps.AppendAt
set_option linter.unusedVariables false
set_option linter.unusedSimpArgs false
namespace Go.Proofs.YtbaaeobdjiglgaaGreat
open Go.RowKit Go.Sort

/-- blocks ahead of base, and the row's -/
def offS (base : Nat) (v : Value) : Nat → Bool := fun k => oldB base k || ownB v k
theorem offS_not {base k : Nat} {v : Value} (h : offS base v k = false) : base ≤ k ∧ v.ownBlock ≠ some k := by
  unfold offS at h
  rw [Bool.or_eq_false_iff] at h
  exact ⟨oldB_not h.1, ownB_not h.2⟩
theorem offS_no {base k : Nat} {v : Value} (h1 : base ≤ k) (h2 : v.ownBlock ≠ some k) : offS base v k = false := by
  unfold offS
  rw [oldB_no h1, ownB_no h2]; rfl
theorem OffG.own {g row : Option Nat} {a b c : World} (h : OffG g a b) (k : b.grownBy c row) (hr : ∀ i, row = some i → a.heap.size ≤ i) : OffG g a c :=
  ⟨Nat.le_trans h.1 k.size, fun i hi hn => (k.block i (Nat.lt_of_lt_of_le hi h.1) (fun e => by have := hr i e.symm; omega)).trans (h.2 i hi hn)⟩
theorem grown_at {b c : World} {row : Option Nat} {g : Nat} {o : Obj} (h : b.heap[g]? = some o) (k : b.grownBy c row) (hn : row ≠ some g) : c.heap[g]? = some o := (k.block g (Array.getElem?_eq_some_iff.1 h).1 (fun e => hn e.symm)).trans h

theorem step_apdB {w : World} {ops : Array Oper} {o : Oper} {a : Act} {K : Act → World → Prop} {Q : Exit → Act → World → Prop} {E : Prop} (hgd : o.guard = none) (s x : Operand)
    (ho : o.op = .call { callee := .builtin .append, args := #[s, x], argTypes := #[22, 22] })
    (base : Nat) (v : Value) (R : List Bnd) (hs : a.eval s = v) (hown : RowK 47 2 bc base w v R)
    (ad : Addr) (c : Nat) (z : Bnd) (hx : a.eval x = .slice (some ad) 1 c) (hsrc : ∀ j u, (bc z)[j]? = some u → w.cell? (ad.add j) = some u) (hn : R.length + 1 ≤ 1048576) (hbase : base ≤ w.heap.size)
    (h : ∀ q m w', RowK 47 2 bc base w' (.slice q (R.length + 1) m) (R ++ [z]) → w.grownBy w' v.ownBlock → ((Value.slice q (R.length + 1) m).ownBlock = v.ownBlock ∨ (Value.slice q (R.length + 1) m).ownBlock = some w.heap.size) → K (a.put o.dst (.slice q (R.length + 1) m)) w') :
    if Region.wanted o (yielded ops a.tmps) = true then Oper.wp Tryz.prog o a w K Q else E := by
  obtain ⟨i0, hi, hz0, hz1, hz2⟩ := info_parts infoBind
  have hw : Region.wanted o (yielded ops a.tmps) = true := by simp [Region.wanted, hgd]
  rw [if_pos hw]
  obtain ⟨v', w', hrun, r1, r2, _, r3⟩ := run_append_own_at (P := Tryz.prog) w base 22 o.type 47 i0 (.agg #[.string ⟨#[]⟩, .slice none 0 0]) 2 40 Tryz.underlying22 hi hz0 hz1 hz2 rfl (by decide) v R.length (R.flatMap bc) hown ad 1 c (bc z) rfl hsrc (bc_one z) (by unfold maxLen; omega) (by omega) hbase
  have r1' := RowK.snoc r1
  obtain ⟨q, m, e⟩ := r1'.form
  rw [List.length_append] at e
  have e : v' = .slice q (R.length + 1) m := e
  subst e
  unfold Oper.wp
  simp [execOp, ho, resolve, invoke, builtin, hs, hx, hrun, Result.andThen]
  exact h q m w' r1' r2 r3
/-- a row of the call's own whose elements lie in new blocks, and in none of the row's -/
def DB (base : Nat) (w : World) (v : Value) (B : List Bnd) : Prop := RowK 47 2 bc base w v B ∧ ∀ x ∈ B, OneB (hole (offS base v) w) x
theorem DB.nil (w : World) (base : Nat) : DB base w (.slice none 0 0) [] := ⟨RowK.nil w base, fun x hx => by cases hx⟩
theorem DB.form {base : Nat} {w : World} {v : Value} {B : List Bnd} (h : DB base w v B) : ∃ q m, v = .slice q B.length m := h.1.form
theorem DB.keep {base : Nat} {w w' : World} {v : Value} {B : List Bnd} (h : DB base w v B) (hb : Below w.heap.size w w') : DB base w' v B := ⟨h.1.keep hb, fun x hx => OneB.ext (h.2 x hx) (Ext.offB hb fun _ _ h => h)⟩
theorem DB.offG {base : Nat} {w w' : World} {v : Value} {B : List Bnd} {g : Option Nat} (h : DB base w v B) (ho : OffG g w w') (hg : ∀ k, g = some k → k < base) : DB base w' v B :=
  ⟨RowK.off h.1 fun k hk => ho.2 k (RowK.blk h.1 k hk).2 (fun e => by have := (RowK.blk h.1 k hk).1; have := hg k e.symm; omega), fun x hx => OneB.ext (h.2 x hx) (Ext.off ho.1 (fun k hk hS => ho.2 k hk (fun e => by have := hg k e.symm; have := (offS_not hS).1; omega)) fun _ _ h => h)⟩
theorem DB.set {base g p : Nat} {w : World} {u v : Value} {B : List Bnd} (h : DB base w v B) (hg : g < base) : DB base (w.setCell ⟨g, p, none⟩ u) v B := h.offG (OffG.set (OffG.refl (some g) w)) (fun k e => by have := Option.some.inj e; omega)
theorem DB.grow {base : Nat} {w w' : World} {v v' : Value} {B : List Bnd} {x : Bnd} (h : DB base w v B) (hx : OneB (hole (offS base v) w) x) (hr : RowK 47 2 bc base w' v' (B ++ [x])) (hg : w.grownBy w' v.ownBlock) (ha : v'.ownBlock = v.ownBlock ∨ v'.ownBlock = some w.heap.size) : DB base w' v' (B ++ [x]) := by
  have he : Ext (hole (offS base v) w) (hole (offS base v') w') := Ext.off hg.size (fun k hk hS => hg.block k hk (fun e => (offS_not hS).2 e.symm)) (fun k hk hS => by
    obtain ⟨h1, h2⟩ := offS_not hS
    refine offS_no h1 ?_
    rcases ha with ha | ha
    · rw [ha]; exact h2
    · rw [ha]; intro e; have := Option.some.inj e; omega)
  refine ⟨hr, fun y hy => ?_⟩
  rcases List.mem_append.1 hy with hy | hy
  · exact OneB.ext (h.2 y hy) he
  · rw [List.mem_singleton.1 hy]; exact OneB.ext hx he

theorem step_apdL {w : World} {ops : Array Oper} {o : Oper} {a : Act} {K : Act → World → Prop} {Q : Exit → Act → World → Prop} {E : Prop} (hgd : o.guard = none) (s x : Operand)
    (ho : o.op = .call { callee := .builtin .append, args := #[s, x], argTypes := #[23, 23] })
    (base : Nat) (v : Value) (R : List Lcl) (hs : a.eval s = v) (hown : RowK 36 4 lc base w v R)
    (ad : Addr) (c : Nat) (z : Lcl) (hx : a.eval x = .slice (some ad) 1 c) (hsrc : ∀ j u, (lc z)[j]? = some u → w.cell? (ad.add j) = some u) (hn : R.length + 1 ≤ 1048576) (hbase : base ≤ w.heap.size)
    (h : ∀ q m w', RowK 36 4 lc base w' (.slice q (R.length + 1) m) (R ++ [z]) → w.grownBy w' v.ownBlock → ((Value.slice q (R.length + 1) m).ownBlock = v.ownBlock ∨ (Value.slice q (R.length + 1) m).ownBlock = some w.heap.size) → K (a.put o.dst (.slice q (R.length + 1) m)) w') :
    if Region.wanted o (yielded ops a.tmps) = true then Oper.wp Tryz.prog o a w K Q else E := by
  obtain ⟨i0, hi, hz0, hz1, hz2⟩ := info_parts infoLoc
  have hw : Region.wanted o (yielded ops a.tmps) = true := by simp [Region.wanted, hgd]
  rw [if_pos hw]
  obtain ⟨v', w', hrun, r1, r2, _, r3⟩ := run_append_own_at (P := Tryz.prog) w base 23 o.type 36 i0 (.agg #[.int .i64 0, .int .i64 0, .slice none 0 0, .slice none 0 0]) 4 64 Tryz.underlying23 hi hz0 hz1 hz2 rfl (by decide) v R.length (R.flatMap lc) hown ad 1 c (lc z) rfl hsrc (lc_one z) (by unfold maxLen; omega) (by omega) hbase
  have r1' := RowK.snoc r1
  obtain ⟨q, m, e⟩ := r1'.form
  rw [List.length_append] at e
  have e : v' = .slice q (R.length + 1) m := e
  subst e
  unfold Oper.wp
  simp [execOp, ho, resolve, invoke, builtin, hs, hx, hrun, Result.andThen]
  exact h q m w' r1' r2 r3
/-- a row of the call's own whose elements lie in new blocks, and in none of the row's -/
def DL (base : Nat) (w : World) (v : Value) (B : List Lcl) : Prop := RowK 36 4 lc base w v B ∧ ∀ x ∈ B, OneL (hole (offS base v) w) x
theorem DL.nil (w : World) (base : Nat) : DL base w (.slice none 0 0) [] := ⟨RowK.nil w base, fun x hx => by cases hx⟩
theorem DL.form {base : Nat} {w : World} {v : Value} {B : List Lcl} (h : DL base w v B) : ∃ q m, v = .slice q B.length m := h.1.form
theorem DL.keep {base : Nat} {w w' : World} {v : Value} {B : List Lcl} (h : DL base w v B) (hb : Below w.heap.size w w') : DL base w' v B := ⟨h.1.keep hb, fun x hx => OneL.ext (h.2 x hx) (Ext.offB hb fun _ _ h => h)⟩
theorem DL.offG {base : Nat} {w w' : World} {v : Value} {B : List Lcl} {g : Option Nat} (h : DL base w v B) (ho : OffG g w w') (hg : ∀ k, g = some k → k < base) : DL base w' v B :=
  ⟨RowK.off h.1 fun k hk => ho.2 k (RowK.blk h.1 k hk).2 (fun e => by have := (RowK.blk h.1 k hk).1; have := hg k e.symm; omega), fun x hx => OneL.ext (h.2 x hx) (Ext.off ho.1 (fun k hk hS => ho.2 k hk (fun e => by have := hg k e.symm; have := (offS_not hS).1; omega)) fun _ _ h => h)⟩
theorem DL.set {base g p : Nat} {w : World} {u v : Value} {B : List Lcl} (h : DL base w v B) (hg : g < base) : DL base (w.setCell ⟨g, p, none⟩ u) v B := h.offG (OffG.set (OffG.refl (some g) w)) (fun k e => by have := Option.some.inj e; omega)
theorem DL.grow {base : Nat} {w w' : World} {v v' : Value} {B : List Lcl} {x : Lcl} (h : DL base w v B) (hx : OneL (hole (offS base v) w) x) (hr : RowK 36 4 lc base w' v' (B ++ [x])) (hg : w.grownBy w' v.ownBlock) (ha : v'.ownBlock = v.ownBlock ∨ v'.ownBlock = some w.heap.size) : DL base w' v' (B ++ [x]) := by
  have he : Ext (hole (offS base v) w) (hole (offS base v') w') := Ext.off hg.size (fun k hk hS => hg.block k hk (fun e => (offS_not hS).2 e.symm)) (fun k hk hS => by
    obtain ⟨h1, h2⟩ := offS_not hS
    refine offS_no h1 ?_
    rcases ha with ha | ha
    · rw [ha]; exact h2
    · rw [ha]; intro e; have := Option.some.inj e; omega)
  refine ⟨hr, fun y hy => ?_⟩
  rcases List.mem_append.1 hy with hy | hy
  · exact OneL.ext (h.2 y hy) he
  · rw [List.mem_singleton.1 hy]; exact OneL.ext hx he

theorem DB.atH {base : Nat} {w : World} {v : Value} {B : List Bnd} (h : DB base w v B) : BsAt (hole (oldB base) w) v B := ⟨h.1.atH bc_len, fun x hx => OneB.ext (h.2 x hx) (Ext.holes _ fun k hS => oldB_no (offS_not hS).1)⟩
theorem DL.atH {base : Nat} {w : World} {v : Value} {B : List Lcl} (h : DL base w v B) : LsAt (hole (oldB base) w) v B := ⟨h.1.atH lc_len, fun x hx => OneL.ext (h.2 x hx) (Ext.holes _ fun k hS => oldB_no (offS_not hS).1)⟩
theorem st_of_rows {base n : Nat} {w : World} {vb vl : Value} {B : List Bnd} {L : List Lcl} {d : Bool} (hb : DB base w vb B) (hl : DL n w vl L) (hn : base ≤ n) : StFr base w (.agg #[.bool d, vb, vl]) ⟨d, bndOf B, lclOf L⟩ :=
  ⟨_, _, B, L, rfl, rfl, rfl, hb.atH, LsAt.ext hl.atH (Ext.holes _ fun k h => oldB_no (Nat.le_trans hn (oldB_not h)))⟩
/-- atoms in a block that is newer than the row -/
theorem oneB_new {base n : Nat} {w : World} {v : Value} {x : Bnd} {B : List Bnd} (h : AtAt w x.v x.vs) (hf : Fresh n x.v) (hb : base ≤ n) (hv : ∀ k, v.ownBlock = some k → k < n) : OneB (hole (offS base v) w) x :=
  AtAt.hole h fun b o s m c e => offS_no (Nat.le_trans hb (hf b o s m c e)) (fun e2 => by have := hf b o s m c e; have := hv b e2; omega)
theorem oneL_new {base n : Nat} {w : World} {v : Value} {x : Lcl} (h : ShFr n w x.v x.s) (hx : InR x.x.n) (hb : base ≤ n) (hv : ∀ k, v.ownBlock = some k → k < n) : OneL (hole (offS base v) w) x :=
  ⟨hx, ShAt.ext h (Ext.holes _ fun k hS => by
    have := oldB_not hS
    exact offS_no (Nat.le_trans hb this) (fun e => by have := hv k e; omega))⟩
theorem new_bc {W : World} {x : Bnd} {T : TypeId} : ∀ j u, (bc x)[j]? = some u → (W.alloc (.cells #[.string x.nm, .slice x.a x.vs.length x.c] T)).cell? ((⟨W.heap.size, 0, none⟩ : Addr).add j) = some u := fun j u hu => by
  rw [add_at]; exact blk_bc (new_at W (.cells #[.string x.nm, .slice x.a x.vs.length x.c] T)) j u hu
theorem new_lc {W : World} {x : Lcl} {T : TypeId} : ∀ j u, (lc x)[j]? = some u → (W.alloc (.cells #[.int .i64 x.x.k, .int .i64 x.x.n, .slice x.fa x.s.fs.length x.fn, .slice x.pa x.s.pr.length x.pn] T)).cell? ((⟨W.heap.size, 0, none⟩ : Addr).add j) = some u := fun j u hu => by
  rw [add_at]; exact blk_lc (new_at W (.cells #[.int .i64 x.x.k, .int .i64 x.x.n, .slice x.fa x.s.fs.length x.fn, .slice x.pa x.s.pr.length x.pn] T)) j u hu

set_option maxHeartbeats 1000000 in
theorem newest_any (k : Int) (w : World) : Calls Tryz.prog 33 #[.int .i64 k] w fun e w' => e = .returned (av ⟨4, k⟩) ∧ Below w.heap.size w w' := by
  unfold av
  obtain ⟨W0, hW0⟩ : ∃ W0, w.alloc (.cells #[.int .i64 0, .int .i64 0] 34) = W0 := ⟨_, rfl⟩
  have hB : Below w.heap.size w W0 := by rw [← hW0]; exact (gr_new _ _).below
  have p : W0.heap[w.heap.size]? = some (.cells #[.int .i64 0, .int .i64 0] 34 (0, 0)) := by rw [← hW0]; exact new_at _ _
  obtain ⟨x1, x2, xf⟩ := cells2 p
  go_enter Tryz.func33, Tryz.ntmps33
  go_wp2
  refine bodyPost_ret (v := .agg #[.int .i64 4, .int .i64 k]) (by simp [results, Tryz.results33, go_sem, x1, x2]) rfl ?_
  exact ⟨rfl, set2b hB (Nat.le_refl _) _ _⟩
set_option maxHeartbeats 1000000 in
theorem older_any (k : Int) (w : World) : Calls Tryz.prog 35 #[.int .i64 k] w fun e w' => e = .returned (av ⟨5, k⟩) ∧ Below w.heap.size w w' := by
  unfold av
  obtain ⟨W0, hW0⟩ : ∃ W0, w.alloc (.cells #[.int .i64 0, .int .i64 0] 34) = W0 := ⟨_, rfl⟩
  have hB : Below w.heap.size w W0 := by rw [← hW0]; exact (gr_new _ _).below
  have p : W0.heap[w.heap.size]? = some (.cells #[.int .i64 0, .int .i64 0] 34 (0, 0)) := by rw [← hW0]; exact new_at _ _
  obtain ⟨x1, x2, xf⟩ := cells2 p
  go_enter Tryz.func35, Tryz.ntmps35
  go_wp2
  refine bodyPost_ret (v := .agg #[.int .i64 5, .int .i64 k]) (by simp [results, Tryz.results35, go_sem, x1, x2]) rfl ?_
  exact ⟨rfl, set2b hB (Nat.le_refl _) _ _⟩
end Go.Proofs.YtbaaeobdjiglgaaGreat
