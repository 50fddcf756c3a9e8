/-
  What a reader is in memory, what programs are in memory, and what stays when a reader goes on. Nothing of the program's code is walked here. No conditions.
-/
import Derived.Test.YtkonkdhoakcmdaaGreatDoorLM
import Derived.Test.YtkonkdhoakcmdaaGreatDoorMM
set_option linter.unusedVariables false
namespace Go.Proofs.YtkonkdhoakcmdaaGreatDoor
open Go.RowKit

/-- but for the block r, all that was there is as it was -/
structure Only (r : Nat) (w w' : World) : Prop where
  os : w'.os = w.os
  tape : w'.tape = w.tape
  output : w'.output = w.output
  size : w.heap.size ≤ w'.heap.size
  block : ∀ k, k < w.heap.size → k ≠ r → w'.heap[k]? = w.heap[k]?

theorem Only.refl (r : Nat) (w : World) : Only r w w := ⟨rfl, rfl, rfl, Nat.le_refl _, fun _ _ _ => rfl⟩
theorem Only.trans {r : Nat} {a b c : World} (h : Only r a b) (k : Only r b c) : Only r a c :=
  ⟨k.os.trans h.os, k.tape.trans h.tape, k.output.trans h.output, Nat.le_trans h.size k.size, fun i hi hr => (k.block i (Nat.lt_of_lt_of_le hi h.size) hr).trans (h.block i hi hr)⟩
theorem Only.of_below {r : Nat} {w w' : World} (h : Below w.heap.size w w') : Only r w w' := ⟨h.os, h.tape, h.output, h.size, fun k hk _ => h.block k hk⟩
theorem Only.below {r : Nat} {a w w' : World} (h : Only r a w) (hb : Below w.heap.size w w') : Only r a w' := h.trans (Only.of_below hb)
theorem Only.alloc {r : Nat} {a w : World} (h : Only r a w) (o : Obj) : Only r a (w.alloc o) := h.below ((Below.refl _ _).alloc (Nat.le_refl _) o)
theorem Only.drewN {r : Nat} {a w : World} (h : Only r a w) (n : Nat) : Only r a (w.drewN n) := ⟨h.os, h.tape, h.output, h.size, h.block⟩
theorem Only.drew {r : Nat} {a w : World} (h : Only r a w) : Only r a w.drew := ⟨h.os, h.tape, h.output, h.size, h.block⟩
/-- a store into the block itself, or into one that is new -/
theorem Only.setCell {r : Nat} {a w : World} (h : Only r a w) {p : Addr} (hp : p.block = r ∨ a.heap.size ≤ p.block) (u : Value) : Only r a (w.setCell p u) :=
  ⟨h.os, h.tape, h.output, by simpa [World.setCell] using h.size, fun k hk hr => by
    rw [Below.heap_setCell _ _ _ _ (by rcases hp with hp | hp <;> omega)]; exact h.block k hk hr⟩
theorem Only.grown {r : Nat} {a w w' : World} {row : Option Nat} (h : Only r a w) (hg : w.grownBy w' row) (hr : ∀ k, row = some k → a.heap.size ≤ k) : Only r a w' :=
  ⟨hg.os.trans h.os, hg.tape.trans h.tape, hg.output.trans h.output, Nat.le_trans h.size hg.size, fun k hk hkr => by
    rw [hg.block k (Nat.lt_of_lt_of_le hk h.size) (fun e => by have := hr k e.symm; omega)]; exact h.block k hk hkr⟩
theorem Only.cell {r : Nat} {w w' : World} (h : Only r w w') {p : Addr} (hp : p.block < w.heap.size) (hr : p.block ≠ r) : w'.cell? p = w.cell? p := World.cell?_of_block (w := w) (h.block p.block hp hr)
theorem Only.frozen {r : Nat} {w w' : World} (h : Only r w w') {p : Addr} (hp : p.block < w.heap.size) (hr : p.block ≠ r) : w'.frozen? p = w.frozen? p := World.frozen?_of_block (w := w) (h.block p.block hp hr)
/-- what holds of a new block r is below -/
theorem Only.to_below {r B : Nat} {a w w' : World} (h : Only r w w') (hr : B ≤ r) (ha : Below B a w) (hB : B ≤ w.heap.size) : Below B a w' :=
  ha.trans ⟨h.os, h.tape, h.output, h.size, fun k hk => h.block k (by omega) (by omega)⟩

theorem TokAt.only {r : Nat} {w w' : World} {v : Value} {ts : List M.Tok} (h : TokAt w v ts) (ho : Only r w w') (hv : ∀ b o n c, v = .slice (some ⟨b, o, none⟩) n c → b ≠ r) : TokAt w' v ts := by
  obtain ⟨h1, h2, a, cap, rfl, h3⟩ := h
  refine ⟨h1, h2, a, cap, rfl, ?_⟩
  rcases h3 with h3 | ⟨b, o, rfl, hlt, hc⟩
  · exact .inl h3
  · have hr := hv b o _ _ rfl
    refine .inr ⟨b, o, rfl, Nat.lt_of_lt_of_le hlt ho.size, fun i hi => ?_⟩
    obtain ⟨c1, c2, c3⟩ := hc i hi
    exact ⟨by rw [ho.cell (p := ⟨b, o + i * 3, none⟩) hlt hr]; exact c1, by rw [ho.cell (p := ⟨b, o + i * 3 + 1, none⟩) hlt hr]; exact c2, by rw [ho.cell (p := ⟨b, o + i * 3 + 2, none⟩) hlt hr]; exact c3⟩

/-- tokens in memory, all of them in a block ahead of r; the slice has the room that it says -/
def TokC (w : World) (r : Nat) (v : Value) (ts : List M.Tok) : Prop :=
  TokAt w v ts ∧ (∀ b o n c, v = .slice (some ⟨b, o, none⟩) n c → b < r) ∧ ∀ a n c, v = .slice a n c → n ≤ c ∧ c ≤ maxLen
theorem TokC.only {r : Nat} {w w' : World} {v : Value} {ts : List M.Tok} (h : TokC w r v ts) (ho : Only r w w') : TokC w' r v ts := ⟨h.1.only ho fun b o n c e => Nat.ne_of_lt (h.2.1 b o n c e), h.2⟩
theorem TokC.keep {r : Nat} {w w' : World} {v : Value} {ts : List M.Tok} (h : TokC w r v ts) (hb : Below w.heap.size w w') : TokC w' r v ts := ⟨h.1.keep hb, h.2⟩

/-- seven cells in a block -/
theorem cells7 {w : World} {r : Nat} {T : TypeId} {v0 v1 v2 v3 v4 v5 v6 : Value} (h : w.heap[r]? = some (.cells #[v0, v1, v2, v3, v4, v5, v6] T (0, 0))) :
    w.cell? ⟨r, 0, none⟩ = some v0 ∧ w.cell? ⟨r, 1, none⟩ = some v1 ∧ w.cell? ⟨r, 2, none⟩ = some v2 ∧ w.cell? ⟨r, 3, none⟩ = some v3 ∧ w.cell? ⟨r, 4, none⟩ = some v4 ∧ w.cell? ⟨r, 5, none⟩ = some v5 ∧ w.cell? ⟨r, 6, none⟩ = some v6 ∧ (∀ i, w.frozen? ⟨r, i, none⟩ = false) ∧ r < w.heap.size := by
  refine ⟨?_, ?_, ?_, ?_, ?_, ?_, ?_, fun i => Lib.frozen_of_heap h i, (Array.getElem?_eq_some_iff.1 h).1⟩
  all_goals (rw [Lib.cell_of_heap h]; rfl)

/-- the block r is a reader that stands at S -/
structure Rd (w : World) (r : Nat) (S : M.St) : Prop where
  heap : ∃ v, w.heap[r]? = some (.cells #[v, .int .i64 S.fin, .int .i64 S.now.k, .string S.now.t, .int .i64 S.now.p, .int .i64 (S.n : Int), .int .i64 (S.d : Int)] 71 (0, 0)) ∧ TokC w r v S.rest
  few : S.rest.length ≤ 4398046511104
  lim : S.n ≤ 2000 ∧ S.d ≤ 32
/-- .. but for the token that it has looked at -/
structure Rd0 (w : World) (r : Nat) (S : M.St) : Prop where
  heap : ∃ v a b c, w.heap[r]? = some (.cells #[v, .int .i64 S.fin, a, b, c, .int .i64 (S.n : Int), .int .i64 (S.d : Int)] 71 (0, 0)) ∧ TokC w r v S.rest
  few : S.rest.length ≤ 4398046511104
  lim : S.n ≤ 2000 ∧ S.d ≤ 32
theorem Rd.lt {w : World} {r : Nat} {S : M.St} (h : Rd w r S) : r < w.heap.size := by
  obtain ⟨v, hv, _⟩ := h.heap
  exact (Array.getElem?_eq_some_iff.1 hv).1
/-- a change elsewhere -/
theorem Rd.below {w w' : World} {r : Nat} {S : M.St} (h : Rd w r S) (hb : Below w.heap.size w w') : Rd w' r S := by
  have hl := h.lt
  obtain ⟨v, hv, ht⟩ := h.heap
  exact ⟨⟨v, by rw [hb.block r hl]; exact hv, ht.keep hb⟩, h.few, h.lim⟩
/-- a change behind the reader -/
theorem Rd.above {w w' : World} {r : Nat} {S : M.St} (h : Rd w r S) (hz : w.heap.size ≤ w'.heap.size) (hb : ∀ k, k ≤ r → w'.heap[k]? = w.heap[k]?) : Rd w' r S := by
  obtain ⟨v, hv, ⟨h1, h2, a, cap, rfl, h3⟩, hap, hcap⟩ := h.heap
  refine ⟨⟨_, by rw [hb r (Nat.le_refl _)]; exact hv, ⟨h1, h2, a, cap, rfl, ?_⟩, hap, hcap⟩, h.few, h.lim⟩
  rcases h3 with h3 | ⟨b, o, rfl, hlt, hc⟩
  · exact .inl h3
  · have hr := hap b o _ _ rfl
    have hcell : ∀ i, w'.cell? ⟨b, i, none⟩ = w.cell? ⟨b, i, none⟩ := fun i => World.cell?_of_block (w := w) (hb b (Nat.le_of_lt hr))
    refine .inr ⟨b, o, rfl, Nat.lt_of_lt_of_le hlt hz, fun i hi => ?_⟩
    rw [hcell, hcell, hcell]
    exact hc i hi
theorem Rd.setCell {w : World} {r : Nat} {S : M.St} (h : Rd w r S) {p : Addr} (hp : r < p.block) (u : Value) : Rd (w.setCell p u) r S :=
  h.above (by simp [World.setCell]) fun k hk => Below.heap_setCell _ _ _ _ (by omega)
theorem Rd.grown {w w' : World} {r : Nat} {S : M.St} {row : Option Nat} (h : Rd w r S) (hg : w.grownBy w' row) (hr : ∀ k, row = some k → r < k) : Rd w' r S :=
  h.above hg.size fun k hk => hg.block k (Nat.lt_of_le_of_lt hk h.lt) (fun e => by have := hr k e.symm; omega)
theorem Rd.alloc {w : World} {r : Nat} {S : M.St} (h : Rd w r S) (o : Obj) : Rd (w.alloc o) r S := h.below ((Below.refl _ _).alloc (Nat.le_refl _) o)

/-- what the blocks that are not in X hold stays -/
structure Keep (X : Nat → Prop) (w w' : World) : Prop where
  size : w.heap.size ≤ w'.heap.size
  block : ∀ k, k < w.heap.size → ¬ X k → w'.heap[k]? = w.heap[k]?
theorem Keep.trans {X : Nat → Prop} {a b c : World} (h : Keep X a b) (k : Keep X b c) : Keep X a c :=
  ⟨Nat.le_trans h.size k.size, fun i hi hx => (k.block i (Nat.lt_of_lt_of_le hi h.size) hx).trans (h.block i hi hx)⟩
theorem Only.keep {r : Nat} {w w' : World} {X : Nat → Prop} (h : Only r w w') (hr : X r) : Keep X w w' := ⟨h.size, fun k hk hx => h.block k hk fun e => hx (e ▸ hr)⟩
theorem Below.keepX {w w' : World} {X : Nat → Prop} (h : Below w.heap.size w w') : Keep X w w' := ⟨h.size, fun k hk _ => h.block k hk⟩
theorem keep_set {w : World} {X : Nat → Prop} {p : Addr} (hp : X p.block) (u : Value) : Keep X w (w.setCell p u) :=
  ⟨by simp [World.setCell], fun k hk hx => Below.heap_setCell _ _ _ _ fun e => hx (e ▸ hp)⟩
theorem keep_grown {w w' : World} {X : Nat → Prop} {row : Option Nat} (hg : w.grownBy w' row) (hr : ∀ k, row = some k → X k) : Keep X w w' :=
  ⟨hg.size, fun k hk hx => hg.block k hk fun e => hx (hr k e.symm)⟩
/-- the blocks that a world has -/
def Old (w : World) : Nat → Prop := fun b => b < w.heap.size

/-- the slice v has n elements, whose cells are cs; they lie in no block of X -/
def SlAt (w : World) (X : Nat → Prop) (v : Value) (n : Nat) (cs : List Value) : Prop :=
  n ≤ 4398046511104 ∧ ∃ a cap, v = .slice a n cap ∧ ((n = 0 ∧ cs = []) ∨ ∃ b o, a = some ⟨b, o, none⟩ ∧ b < w.heap.size ∧ ¬ X b ∧ ∀ i u, cs[i]? = some u → w.cell? ⟨b, o + i, none⟩ = some u)

theorem SlAt.keep {w w' : World} {X : Nat → Prop} {v : Value} {n : Nat} {cs : List Value} (h : SlAt w X v n cs) (ho : Keep X w w') : SlAt w' X v n cs := by
  obtain ⟨h1, a, cap, rfl, h2⟩ := h
  refine ⟨h1, a, cap, rfl, ?_⟩
  rcases h2 with h2 | ⟨b, o, rfl, hlt, hr, hc⟩
  · exact .inl h2
  · exact .inr ⟨b, o, rfl, Nat.lt_of_lt_of_le hlt ho.size, hr, fun i u hu => by rw [World.cell?_of_block (w := w) (a := ⟨b, o + i, none⟩) (ho.block b hlt hr)]; exact hc i u hu⟩
theorem SlAt.weak {w : World} {X Y : Nat → Prop} {v : Value} {n : Nat} {cs : List Value} (h : SlAt w X v n cs) (hw : ∀ b, b < w.heap.size → ¬ X b → ¬ Y b) : SlAt w Y v n cs := by
  obtain ⟨h1, a, cap, rfl, h2⟩ := h
  refine ⟨h1, a, cap, rfl, ?_⟩
  rcases h2 with h2 | ⟨b, o, rfl, hlt, hr, hc⟩
  · exact .inl h2
  · exact .inr ⟨b, o, rfl, hlt, hw b hlt hr, hc⟩
theorem SlAt.nil (w : World) (X : Nat → Prop) : SlAt w X (.slice none 0 0) 0 [] := ⟨Nat.zero_le _, none, 0, rfl, .inl ⟨rfl, rfl⟩⟩
theorem SlAt.of_owns {w : World} {X : Nat → Prop} {base size n : Nat} {e : TypeId} {v : Value} {cs : List Value} (h : w.ownsRow base e size v n cs) (hr : ∀ b, base ≤ b → ¬ X b) (hn : n ≤ 4398046511104) : SlAt w X v n cs := by
  refine ⟨hn, ?_⟩
  have hc := fun g hg => h.cells (g := g) hg
  have hl := h.1
  rcases h.2 with ⟨rfl, h0⟩ | ⟨g, cap, cur, rfl, hb, hh, _⟩
  · refine ⟨none, 0, by rw [h0], .inl ⟨h0, ?_⟩⟩
    rw [h0] at hl; exact List.length_eq_zero_iff.1 (by omega)
  · refine ⟨some ⟨g, 0, none⟩, cap, rfl, .inr ⟨g, 0, rfl, (Array.getElem?_eq_some_iff.1 hh).1, hr g hb, fun i u hu => ?_⟩⟩
    have := hc g rfl i u hu
    rw [add0] at this
    exact this

def opCells (o : M.Opd) : List Value := [.int .i64 o.k, .int .i64 o.n, .string o.s]
def OpsAt (w : World) (X : Nat → Prop) (v : Value) (l : List M.Opd) : Prop := SlAt w X v l.length (l.flatMap opCells)
def StrsAt (w : World) (X : Nat → Prop) (v : Value) (l : List ByteArray) : Prop := SlAt w X v l.length (l.map .string)

/-- the cells cs are the statements t, one behind the other -/
def RowAt (w : World) (X : Nat → Prop) : List Value → M.Tr → Prop
  | cs, .nil => cs = []
  | cs, .cons op x y p a pr th el nx => ∃ va vp vt ve ct ce rest, cs = .int .i64 op :: .string x :: .string y :: .string p :: va :: vp :: vt :: ve :: rest ∧
      OpsAt w X va a ∧ StrsAt w X vp pr ∧ (SlAt w X vt th.len ct ∧ RowAt w X ct th) ∧ (SlAt w X ve el.len ce ∧ RowAt w X ce el) ∧ RowAt w X rest nx
def StmAt (w : World) (X : Nat → Prop) (v : Value) (t : M.Tr) : Prop := ∃ cs, SlAt w X v t.len cs ∧ RowAt w X cs t
theorem RowAt.keep {w w' : World} {X : Nat → Prop} (ho : Keep X w w') : ∀ {t : M.Tr} {cs : List Value}, RowAt w X cs t → RowAt w' X cs t
  | .nil, _, h => h
  | .cons _ _ _ _ _ _ th el nx, _, ⟨va, vp, vt, ve, ct, ce, rest, e, h1, h2, ⟨h3, h4⟩, ⟨h5, h6⟩, h7⟩ =>
    ⟨va, vp, vt, ve, ct, ce, rest, e, SlAt.keep h1 ho, SlAt.keep h2 ho, ⟨h3.keep ho, RowAt.keep ho h4⟩, ⟨h5.keep ho, RowAt.keep ho h6⟩, RowAt.keep ho h7⟩
theorem RowAt.weak {w : World} {X Y : Nat → Prop} (hw : ∀ b, b < w.heap.size → ¬ X b → ¬ Y b) : ∀ {t : M.Tr} {cs : List Value}, RowAt w X cs t → RowAt w Y cs t
  | .nil, _, h => h
  | .cons _ _ _ _ _ _ th el nx, _, ⟨va, vp, vt, ve, ct, ce, rest, e, h1, h2, ⟨h3, h4⟩, ⟨h5, h6⟩, h7⟩ =>
    ⟨va, vp, vt, ve, ct, ce, rest, e, SlAt.weak h1 hw, SlAt.weak h2 hw, ⟨h3.weak hw, RowAt.weak hw h4⟩, ⟨h5.weak hw, RowAt.weak hw h6⟩, RowAt.weak hw h7⟩
theorem StmAt.keep {w w' : World} {X : Nat → Prop} {v : Value} {t : M.Tr} (h : StmAt w X v t) (ho : Keep X w w') : StmAt w' X v t := by
  obtain ⟨cs, h1, h2⟩ := h
  exact ⟨cs, h1.keep ho, RowAt.keep ho h2⟩
theorem StmAt.weak {w : World} {X Y : Nat → Prop} {v : Value} {t : M.Tr} (h : StmAt w X v t) (hw : ∀ b, b < w.heap.size → ¬ X b → ¬ Y b) : StmAt w Y v t := by
  obtain ⟨cs, h1, h2⟩ := h
  exact ⟨cs, h1.weak hw, RowAt.weak hw h2⟩
theorem RowAt.app {w : World} {X : Nat → Prop} : ∀ {t u : M.Tr} {cs ds : List Value}, RowAt w X cs t → RowAt w X ds u → RowAt w X (cs ++ ds) (t.app u)
  | .nil, u, cs, ds, h, k => by
    have e : cs = [] := h
    subst e; exact k
  | .cons _ _ _ _ _ _ th el nx, u, cs, ds, ⟨va, vp, vt, ve, ct, ce, rest, e, h1, h2, h3, h5, h7⟩, k => by
    subst e
    exact ⟨va, vp, vt, ve, ct, ce, rest ++ ds, rfl, h1, h2, h3, h5, RowAt.app h7 k⟩
theorem RowAt.one {w : World} {X : Nat → Prop} {op : Int} {x y p : ByteArray} {a : List M.Opd} {pr : List ByteArray} {th el : M.Tr} {va vp vt ve : Value}
    (h1 : OpsAt w X va a) (h2 : StrsAt w X vp pr) (h3 : StmAt w X vt th) (h4 : StmAt w X ve el) :
    RowAt w X [.int .i64 op, .string x, .string y, .string p, va, vp, vt, ve] (M.one op x y p a pr th el) := by
  obtain ⟨ct, a1, a2⟩ := h3
  obtain ⟨ce, b1, b2⟩ := h4
  exact ⟨va, vp, vt, ve, ct, ce, [], rfl, h1, h2, ⟨a1, a2⟩, ⟨b1, b2⟩, rfl⟩
theorem OpsAt.nil (w : World) (X : Nat → Prop) : OpsAt w X (.slice none 0 0) [] := SlAt.nil w X
theorem StrsAt.nil (w : World) (X : Nat → Prop) : StrsAt w X (.slice none 0 0) [] := SlAt.nil w X
theorem StmAt.nil (w : World) (X : Nat → Prop) : StmAt w X (.slice none 0 0) .nil := ⟨[], SlAt.nil w X, rfl⟩

/-- the cells cs are the functions l -/
def FnsAt (w : World) (X : Nat → Prop) : List Value → List M.Fn → Prop
  | cs, [] => cs = []
  | cs, f :: l => ∃ vp vb rest, cs = .string f.name :: vp :: vb :: rest ∧ StrsAt w X vp f.ps ∧ StmAt w X vb f.body ∧ FnsAt w X rest l
def ProgAt (w : World) (X : Nat → Prop) (v : Value) (l : List M.Fn) : Prop := ∃ cs, SlAt w X v l.length cs ∧ FnsAt w X cs l
theorem FnsAt.keep {w w' : World} {X : Nat → Prop} (ho : Keep X w w') : ∀ {l : List M.Fn} {cs : List Value}, FnsAt w X cs l → FnsAt w' X cs l
  | [], _, h => h
  | _ :: _, _, ⟨vp, vb, rest, e, h1, h2, h3⟩ => ⟨vp, vb, rest, e, SlAt.keep h1 ho, h2.keep ho, FnsAt.keep ho h3⟩
theorem FnsAt.weak {w : World} {X Y : Nat → Prop} (hw : ∀ b, b < w.heap.size → ¬ X b → ¬ Y b) : ∀ {l : List M.Fn} {cs : List Value}, FnsAt w X cs l → FnsAt w Y cs l
  | [], _, h => h
  | _ :: _, _, ⟨vp, vb, rest, e, h1, h2, h3⟩ => ⟨vp, vb, rest, e, SlAt.weak h1 hw, h2.weak hw, FnsAt.weak hw h3⟩
theorem ProgAt.keep {w w' : World} {X : Nat → Prop} {v : Value} {l : List M.Fn} (h : ProgAt w X v l) (ho : Keep X w w') : ProgAt w' X v l := by
  obtain ⟨cs, h1, h2⟩ := h
  exact ⟨cs, h1.keep ho, FnsAt.keep ho h2⟩
theorem ProgAt.weak {w : World} {X Y : Nat → Prop} {v : Value} {l : List M.Fn} (h : ProgAt w X v l) (hw : ∀ b, b < w.heap.size → ¬ X b → ¬ Y b) : ProgAt w Y v l := by
  obtain ⟨cs, h1, h2⟩ := h
  exact ⟨cs, h1.weak hw, FnsAt.weak hw h2⟩
theorem FnsAt.app {w : World} {X : Nat → Prop} : ∀ {l m : List M.Fn} {cs ds : List Value}, FnsAt w X cs l → FnsAt w X ds m → FnsAt w X (cs ++ ds) (l ++ m)
  | [], m, cs, ds, h, k => by
    have e : cs = [] := h
    subst e; exact k
  | _ :: _, m, cs, ds, ⟨vp, vb, rest, e, h1, h2, h3⟩, k => by
    subst e
    exact ⟨vp, vb, rest ++ ds, rfl, h1, h2, FnsAt.app h3 k⟩

/-- what a reader is stopped with -/
def stopOf (f : M.Flt) : List PanicEntry := [{ v := .iface 38 (.agg #[.int .i64 f.1, .int .i64 f.2]), recovered := false }]

/-- how a reading ends: with what was read, or with a stop -/
def Ends {α : Type} (r : Nat) (w : World) (enc : α → Value → World → Prop) (res : M.Res α) (e : Ending) (w' : World) : Prop :=
  Only r w w' ∧ (∀ S a, res = .ok (S, a) → ∃ v, e = .returned v ∧ Rd w' r S ∧ enc a v w') ∧ (∀ f, res = .error f → e = .panicked (stopOf f))
end Go.Proofs.YtkonkdhoakcmdaaGreatDoor
