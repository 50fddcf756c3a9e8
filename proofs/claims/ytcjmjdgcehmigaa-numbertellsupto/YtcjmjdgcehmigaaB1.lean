/-
  What statements are in memory, and what stays when memory grows. Nothing of the program's code is walked here. No conditions.
-/
import Derived.Test.YtcjmjdgcehmigaaRows
import Derived.WalkKit
import Derived.WalkSpells
import Derived.WalkLawsBesides
import Derived.Lib.Bytealg
import Derived.Deep.QuietTactic
import Derived.BigQuiet
import Derived.Laws.StructEq
import Derived.Laws.IdiomStrings
import Derived.Deep.LoopGhost
import Derived.Deep.RegionHeld3
import Derived.Lib.Hide
set_option linter.unusedVariables false
namespace Go.Proofs.Ytcjmjdgcehmigaa
open Go.RowKit
theorem hid {p : Prop} (h : p) : Hid p := h
namespace M
theorem bytes_ext {a b : ByteArray} (h : a.data.toList = b.data.toList) : a = b := by
  obtain ⟨⟨x⟩⟩ := a
  obtain ⟨⟨y⟩⟩ := b
  simp only at h
  rw [h]
/-- an operand -/
structure Opd where
  k : Int
  n : Int
  s : ByteArray
  deriving DecidableEq
/-- statements, one behind the other -/
inductive Tr where
  | nil
  | cons (op : Int) (x y p : ByteArray) (a : List Opd) (pr : List ByteArray) (th el nx : Tr)
  deriving DecidableEq
def Tr.app : Tr → Tr → Tr
  | .nil, t => t
  | .cons op x y p a pr th el nx, t => .cons op x y p a pr th el (nx.app t)
def Tr.len : Tr → Nat
  | .nil => 0
  | .cons _ _ _ _ _ _ _ _ nx => nx.len + 1
/-- a function -/
structure Fn where
  name : ByteArray
  ps : List ByteArray
  body : Tr
  deriving DecidableEq
def Tr.sz : Tr → Nat
  | .nil => 0
  | .cons _ _ _ _ _ _ th el nx => 1 + th.sz + el.sz + nx.sz
def one (op : Int) (x y p : ByteArray) (a : List Opd) (pr : List ByteArray) (th el : Tr) : Tr := .cons op x y p a pr th el .nil
end M
theorem ret_int {k : IntKind} {a b : Int} (h : a = b) : Ending.returned (.int k a) = .returned (.int k b) := by rw [h]
theorem ret_bool {a b : Bool} (h : a = b) : Ending.returned (.bool a) = .returned (.bool b) := by rw [h]
theorem drewN_drewN (w : World) (a b : Nat) : (w.drewN a).drewN b = w.drewN (a + b) := by simp [World.drewN, Nat.add_assoc]
theorem toList_inj {a b : ByteArray} : a.toList = b.toList ↔ a = b := by
  rw [ByteArray.toList_eq, ByteArray.toList_eq]; exact ⟨M.bytes_ext, fun h => by rw [h]⟩
theorem beq_list (a b : ByteArray) : (a.toList == b.toList) = decide (a = b) := by
  rw [Bool.eq_iff_iff]; simp [toList_inj]
theorem add0 (g j : Nat) : (⟨g, 0, none⟩ : Addr).add j = ⟨g, 0 + j, none⟩ := by
  unfold Addr.add
  split
  · rename_i h; rw [h]
  · rfl
theorem below_drewN {B : Nat} {a w : World} (h : Below B a w) (n : Nat) : Below B a (w.drewN n) := ⟨h.os, h.tape, h.output, h.size, h.block⟩
/-- what the blocks that are not in X hold stays -/
structure Keep (X : Nat → Prop) (w w' : World) : Prop where
  size : w.heap.size ≤ w'.heap.size
  block : ∀ k, k < w.heap.size → ¬ X k → w'.heap[k]? = w.heap[k]?
theorem Keep.trans {X : Nat → Prop} {a b c : World} (h : Keep X a b) (k : Keep X b c) : Keep X a c :=
  ⟨Nat.le_trans h.size k.size, fun i hi hx => (k.block i (Nat.lt_of_lt_of_le hi h.size) hx).trans (h.block i hi hx)⟩
theorem Below.keepX {w w' : World} {X : Nat → Prop} (h : Below w.heap.size w w') : Keep X w w' := ⟨h.size, fun k hk _ => h.block k hk⟩
/-- the slice v has n elements, whose cells are cs; they lie in no block of X -/
def SlAt (w : World) (X : Nat → Prop) (v : Value) (n : Nat) (cs : List Value) : Prop :=
  n ≤ 4398046511104 ∧ ∃ a cap, v = .slice a n cap ∧ ((n = 0 ∧ cs = []) ∨ ∃ b o, a = some ⟨b, o, none⟩ ∧ b < w.heap.size ∧ (¬ X b ∧ n ≤ cap ∧ cap ≤ maxLen) ∧ ∀ i u, cs[i]? = some u → w.cell? ⟨b, o + i, none⟩ = some u)
theorem SlAt.keep {w w' : World} {X : Nat → Prop} {v : Value} {n : Nat} {cs : List Value} (h : SlAt w X v n cs) (ho : Keep X w w') : SlAt w' X v n cs := by
  obtain ⟨h1, a, cap, rfl, h2⟩ := h
  refine ⟨h1, a, cap, rfl, ?_⟩
  rcases h2 with h2 | ⟨b, o, rfl, hlt, hr, hc⟩
  · exact .inl h2
  · exact .inr ⟨b, o, rfl, Nat.lt_of_lt_of_le hlt ho.size, hr, fun i u hu => by rw [World.cell?_of_block (w := w) (a := ⟨b, o + i, none⟩) (ho.block b hlt hr.1)]; exact hc i u hu⟩
theorem SlAt.weak {w : World} {X Y : Nat → Prop} {v : Value} {n : Nat} {cs : List Value} (h : SlAt w X v n cs) (hw : ∀ b, b < w.heap.size → ¬ X b → ¬ Y b) : SlAt w Y v n cs := by
  obtain ⟨h1, a, cap, rfl, h2⟩ := h
  refine ⟨h1, a, cap, rfl, ?_⟩
  rcases h2 with h2 | ⟨b, o, rfl, hlt, hr, hc⟩
  · exact .inl h2
  · exact .inr ⟨b, o, rfl, hlt, ⟨hw b hlt hr.1, hr.2⟩, hc⟩
theorem SlAt.nil (w : World) (X : Nat → Prop) : SlAt w X (.slice none 0 0) 0 [] := ⟨Nat.zero_le _, none, 0, rfl, .inl ⟨rfl, rfl⟩⟩
theorem SlAt.of_owns {w : World} {X : Nat → Prop} {base size n : Nat} {e : TypeId} {v : Value} {cs : List Value} (h : w.ownsRow base e size v n cs) (hr : ∀ b, base ≤ b → ¬ X b) (hn : n ≤ 4398046511104) : SlAt w X v n cs := by
  refine ⟨hn, ?_⟩
  have hc := fun g hg => h.cells (g := g) hg
  have hl := h.1
  rcases h.2 with ⟨rfl, h0⟩ | ⟨g, cap, cur, rfl, hb, hh, hc1, hc2, _⟩
  · refine ⟨none, 0, by rw [h0], .inl ⟨h0, ?_⟩⟩
    rw [h0] at hl; exact List.length_eq_zero_iff.1 (by omega)
  · refine ⟨some ⟨g, 0, none⟩, cap, rfl, .inr ⟨g, 0, rfl, (Array.getElem?_eq_some_iff.1 hh).1, ⟨hr g hb, hc1, hc2⟩, fun i u hu => ?_⟩⟩
    have := hc g rfl i u hu
    rw [add0] at this
    exact this
def opCells (o : M.Opd) : List Value := [.int .i64 o.k, .int .i64 o.n, .string o.s]
def OpsAt (w : World) (X : Nat → Prop) (v : Value) (l : List M.Opd) : Prop := SlAt w X v l.length (l.flatMap opCells)
def StrsAt (w : World) (X : Nat → Prop) (v : Value) (l : List ByteArray) : Prop := SlAt w X v l.length (l.map .string)
/-- the cells cs are the statements t, one behind the other -/
def RowAt (w : World) (X : Nat → Prop) : List Value → M.Tr → Prop
  | cs, .nil => cs = []
  | cs, .cons op x y p a pr th el nx => ∃ va vp vt ve ct ce rest, cs = .int .i64 op :: .string x :: .string y :: .string p :: va :: vp :: vt :: ve :: rest ∧
      OpsAt w X va a ∧ StrsAt w X vp pr ∧ (SlAt w X vt th.len ct ∧ RowAt w X ct th) ∧ (SlAt w X ve el.len ce ∧ RowAt w X ce el) ∧ RowAt w X rest nx
def StmAt (w : World) (X : Nat → Prop) (v : Value) (t : M.Tr) : Prop := ∃ cs, SlAt w X v t.len cs ∧ RowAt w X cs t
theorem RowAt.keep {w w' : World} {X : Nat → Prop} (ho : Keep X w w') : ∀ {t : M.Tr} {cs : List Value}, RowAt w X cs t → RowAt w' X cs t
  | .nil, _, h => h
  | .cons _ _ _ _ _ _ th el nx, _, ⟨va, vp, vt, ve, ct, ce, rest, e, h1, h2, ⟨h3, h4⟩, ⟨h5, h6⟩, h7⟩ =>
    ⟨va, vp, vt, ve, ct, ce, rest, e, SlAt.keep h1 ho, SlAt.keep h2 ho, ⟨h3.keep ho, RowAt.keep ho h4⟩, ⟨h5.keep ho, RowAt.keep ho h6⟩, RowAt.keep ho h7⟩
theorem RowAt.weak {w : World} {X Y : Nat → Prop} (hw : ∀ b, b < w.heap.size → ¬ X b → ¬ Y b) : ∀ {t : M.Tr} {cs : List Value}, RowAt w X cs t → RowAt w Y cs t
  | .nil, _, h => h
  | .cons _ _ _ _ _ _ th el nx, _, ⟨va, vp, vt, ve, ct, ce, rest, e, h1, h2, ⟨h3, h4⟩, ⟨h5, h6⟩, h7⟩ =>
    ⟨va, vp, vt, ve, ct, ce, rest, e, SlAt.weak h1 hw, SlAt.weak h2 hw, ⟨h3.weak hw, RowAt.weak hw h4⟩, ⟨h5.weak hw, RowAt.weak hw h6⟩, RowAt.weak hw h7⟩
theorem StmAt.keep {w w' : World} {X : Nat → Prop} {v : Value} {t : M.Tr} (h : StmAt w X v t) (ho : Keep X w w') : StmAt w' X v t := by
  obtain ⟨cs, h1, h2⟩ := h
  exact ⟨cs, h1.keep ho, RowAt.keep ho h2⟩
theorem StmAt.weak {w : World} {X Y : Nat → Prop} {v : Value} {t : M.Tr} (h : StmAt w X v t) (hw : ∀ b, b < w.heap.size → ¬ X b → ¬ Y b) : StmAt w Y v t := by
  obtain ⟨cs, h1, h2⟩ := h
  exact ⟨cs, h1.weak hw, RowAt.weak hw h2⟩
theorem RowAt.app {w : World} {X : Nat → Prop} : ∀ {t u : M.Tr} {cs ds : List Value}, RowAt w X cs t → RowAt w X ds u → RowAt w X (cs ++ ds) (t.app u)
  | .nil, u, cs, ds, h, k => by
    have e : cs = [] := h
    subst e; exact k
  | .cons _ _ _ _ _ _ th el nx, u, cs, ds, ⟨va, vp, vt, ve, ct, ce, rest, e, h1, h2, h3, h5, h7⟩, k => by
    subst e
    exact ⟨va, vp, vt, ve, ct, ce, rest ++ ds, rfl, h1, h2, h3, h5, RowAt.app h7 k⟩
theorem RowAt.one {w : World} {X : Nat → Prop} {op : Int} {x y p : ByteArray} {a : List M.Opd} {pr : List ByteArray} {th el : M.Tr} {va vp vt ve : Value}
    (h1 : OpsAt w X va a) (h2 : StrsAt w X vp pr) (h3 : StmAt w X vt th) (h4 : StmAt w X ve el) :
    RowAt w X [.int .i64 op, .string x, .string y, .string p, va, vp, vt, ve] (M.one op x y p a pr th el) := by
  obtain ⟨ct, a1, a2⟩ := h3
  obtain ⟨ce, b1, b2⟩ := h4
  exact ⟨va, vp, vt, ve, ct, ce, [], rfl, h1, h2, ⟨a1, a2⟩, ⟨b1, b2⟩, rfl⟩
theorem OpsAt.nil (w : World) (X : Nat → Prop) : OpsAt w X (.slice none 0 0) [] := SlAt.nil w X
theorem StrsAt.nil (w : World) (X : Nat → Prop) : StrsAt w X (.slice none 0 0) [] := SlAt.nil w X
theorem StmAt.nil (w : World) (X : Nat → Prop) : StmAt w X (.slice none 0 0) .nil := ⟨[], SlAt.nil w X, rfl⟩
/-- the cells cs are the functions l -/
def FnsAt (w : World) (X : Nat → Prop) : List Value → List M.Fn → Prop
  | cs, [] => cs = []
  | cs, f :: l => ∃ vp vb rest, cs = .string f.name :: vp :: vb :: rest ∧ StrsAt w X vp f.ps ∧ StmAt w X vb f.body ∧ FnsAt w X rest l
def ProgAt (w : World) (X : Nat → Prop) (v : Value) (l : List M.Fn) : Prop := ∃ cs, SlAt w X v l.length cs ∧ FnsAt w X cs l
theorem cells8 {w : World} {g : Nat} {T : TypeId} {v0 v1 v2 v3 v4 v5 v6 v7 : Value} (h : w.heap[g]? = some (.cells #[v0, v1, v2, v3, v4, v5, v6, v7] T (0, 0))) :
    w.cell? ⟨g, 0, none⟩ = some v0 ∧ w.cell? ⟨g, 1, none⟩ = some v1 ∧ w.cell? ⟨g, 2, none⟩ = some v2 ∧ w.cell? ⟨g, 3, none⟩ = some v3 ∧ w.cell? ⟨g, 4, none⟩ = some v4 ∧ w.cell? ⟨g, 5, none⟩ = some v5 ∧ w.cell? ⟨g, 6, none⟩ = some v6 ∧ w.cell? ⟨g, 7, none⟩ = some v7 ∧ (∀ i, w.frozen? ⟨g, i, none⟩ = false) ∧ g < w.heap.size := by
  refine ⟨?_, ?_, ?_, ?_, ?_, ?_, ?_, ?_, fun i => Lib.frozen_of_heap h i, (Array.getElem?_eq_some_iff.1 h).1⟩
  all_goals (rw [Lib.cell_of_heap h]; rfl)
theorem own_form {w : World} {b z n : Nat} {e : TypeId} {v : Value} {xs : List Value} (h : w.ownsRow b e z v n xs) : ∃ a c, v = .slice a n c := by
  rcases h.2 with ⟨rfl, rfl⟩ | ⟨g, cap, cur, rfl, _⟩
  · exact ⟨_, _, rfl⟩
  · exact ⟨_, _, rfl⟩
theorem SlAt.form {w : World} {X : Nat → Prop} {n : Nat} {v : Value} {xs : List Value} (h : SlAt w X v n xs) : ∃ a c, v = .slice a n c := by
  obtain ⟨_, a, c, rfl, _⟩ := h
  exact ⟨_, _, rfl⟩
theorem StmAt.form {w : World} {X : Nat → Prop} {v : Value} {t : M.Tr} (h : StmAt w X v t) : ∃ a c, v = .slice a t.len c := by
  obtain ⟨cs, h1, _⟩ := h
  exact SlAt.form h1
def NoX : Nat → Prop := fun _ => False
theorem SlAt.bel {w w' : World} {X : Nat → Prop} {v : Value} {n : Nat} {cs : List Value} (h : SlAt w X v n cs) (hb : Below w.heap.size w w') : SlAt w' X v n cs := h.keep (Below.keepX hb)
theorem StmAt.bel {w w' : World} {X : Nat → Prop} {v : Value} {t : M.Tr} (h : StmAt w X v t) (hb : Below w.heap.size w w') : StmAt w' X v t := h.keep (Below.keepX hb)
theorem drop_get {α : Type} (l : List α) (n k : Nat) : l[n + k]? = (l.drop n)[k]? := by rw [List.getElem?_drop]
theorem sz_pos : ∀ t : M.Tr, t.len ≤ t.sz
  | .nil => Nat.le_refl _
  | .cons _ _ _ _ _ _ th el nx => by have := sz_pos nx; simp only [M.Tr.len, M.Tr.sz]; omega
theorem len_nil {t : M.Tr} (h : t.len = 0) : t = .nil := by
  cases t with
  | nil => rfl
  | cons => simp [M.Tr.len] at h
/-- eight cells of a row -/
theorem eight {w : World} {b o j : Nat} {cs rest : List Value} {c0 c1 c2 c3 c4 c5 c6 c7 : Value} (hc : ∀ i u, cs[i]? = some u → w.cell? ⟨b, o + i, none⟩ = some u) (hd : cs.drop (j * 8) = c0 :: c1 :: c2 :: c3 :: c4 :: c5 :: c6 :: c7 :: rest) :
    w.cell? ⟨b, o + j * 8, none⟩ = some c0 ∧ w.cell? ⟨b, o + j * 8 + 1, none⟩ = some c1 ∧ w.cell? ⟨b, o + j * 8 + 2, none⟩ = some c2 ∧ w.cell? ⟨b, o + j * 8 + 3, none⟩ = some c3 ∧ w.cell? ⟨b, o + j * 8 + 4, none⟩ = some c4 ∧ w.cell? ⟨b, o + j * 8 + 5, none⟩ = some c5 ∧ w.cell? ⟨b, o + j * 8 + 6, none⟩ = some c6 ∧ w.cell? ⟨b, o + j * 8 + 7, none⟩ = some c7 ∧ cs.drop ((j + 1) * 8) = rest := by
  have h : ∀ k u, (c0 :: c1 :: c2 :: c3 :: c4 :: c5 :: c6 :: c7 :: rest)[k]? = some u → w.cell? ⟨b, o + j * 8 + k, none⟩ = some u := fun k u hu => by
    rw [Nat.add_assoc]; exact hc _ _ (by rw [drop_get, hd]; exact hu)
  refine ⟨h 0 _ rfl, h 1 _ rfl, h 2 _ rfl, h 3 _ rfl, h 4 _ rfl, h 5 _ rfl, h 6 _ rfl, h 7 _ rfl, ?_⟩
  rw [show (j + 1) * 8 = j * 8 + 8 by omega, ← List.drop_drop, hd]; rfl
theorem cells3 {w : World} {g : Nat} {T : TypeId} {v0 v1 v2 : Value} (h : w.heap[g]? = some (.cells #[v0, v1, v2] T (0, 0))) :
    w.cell? ⟨g, 0, none⟩ = some v0 ∧ w.cell? ⟨g, 1, none⟩ = some v1 ∧ w.cell? ⟨g, 2, none⟩ = some v2 ∧ (∀ i, w.frozen? ⟨g, i, none⟩ = false) ∧ g < w.heap.size := by
  refine ⟨?_, ?_, ?_, fun i => Lib.frozen_of_heap h i, (Array.getElem?_eq_some_iff.1 h).1⟩
  all_goals (rw [Lib.cell_of_heap h]; rfl)
theorem cell0 {w : World} {b : Nat} {v : Value} {T : TypeId} (h : w.heap[b]? = some (.cells #[v] T (0, 0))) : w.cell? ⟨b, 0, none⟩ = some v := by rw [Lib.cell_of_heap h]; rfl
/-- two new blocks, whichever comes first -/
theorem pair_new {wr : World} {A B : Obj} : Below wr.heap.size wr ((wr.alloc A).alloc B).drew ∧ ((wr.alloc A).alloc B).drew.heap[wr.heap.size]? = some A ∧ ((wr.alloc A).alloc B).drew.heap[wr.heap.size + 1]? = some B ∧ ((wr.alloc A).alloc B).drew.heap.size = wr.heap.size + 2 := by
  refine ⟨(((Below.refl _ _).alloc (Nat.le_refl _) _).alloc (by simp) _).drew, ?_, ?_, ?_⟩
  · show ((wr.alloc A).alloc B).heap[wr.heap.size]? = _
    exact (Below.heap_alloc _ _ _ (by simp)).trans (heap_alloc_new wr _)
  · show ((wr.alloc A).alloc B).heap[wr.heap.size + 1]? = _
    have := heap_alloc_new (wr.alloc A) B
    rw [World.size_alloc] at this; exact this
  · show ((wr.alloc A).alloc B).heap.size = _
    simp only [World.size_alloc]
theorem strs_cells {w : World} {X : Nat → Prop} {v : Value} {l : List ByteArray} (h : StrsAt w X v l) : l.length ≤ 4398046511104 ∧ ∃ a cap, v = .slice a l.length cap ∧ (l = [] ∨ ∃ b o, a = some ⟨b, o, none⟩ ∧ b < w.heap.size ∧ ∀ i (hi : i < l.length), w.cell? ⟨b, o + i, none⟩ = some (.string l[i])) := by
  obtain ⟨h1, a, cap, rfl, h2⟩ := h
  refine ⟨h1, a, cap, rfl, ?_⟩
  rcases h2 with ⟨h2, _⟩ | ⟨b, o, rfl, hlt, _, hc⟩
  · exact .inl (List.length_eq_zero_iff.1 h2)
  · exact .inr ⟨b, o, rfl, hlt, fun i hi => hc i _ (by simp [hi])⟩
theorem op_get : ∀ (l : List M.Opd) (i : Nat) (h : i < l.length), (l.flatMap opCells)[i * 3]? = some (.int .i64 l[i].k) ∧ (l.flatMap opCells)[i * 3 + 1]? = some (.int .i64 l[i].n) ∧ (l.flatMap opCells)[i * 3 + 2]? = some (.string l[i].s)
  | [], i, h => absurd h (by simp)
  | x :: r, 0, h => ⟨rfl, rfl, rfl⟩
  | x :: r, i + 1, h => by
    obtain ⟨h1, h2, h3⟩ := op_get r i (by simpa using h)
    have e : (x :: r).flatMap opCells = .int .i64 x.k :: .int .i64 x.n :: .string x.s :: r.flatMap opCells := rfl
    rw [e, show (i + 1) * 3 = i * 3 + 1 + 1 + 1 by omega]
    exact ⟨by simpa using h1, by simpa using h2, by simpa using h3⟩
theorem ops_cells {w : World} {X : Nat → Prop} {v : Value} {l : List M.Opd} (h : OpsAt w X v l) : l.length ≤ 4398046511104 ∧ ∃ a cap, v = .slice a l.length cap ∧ (l = [] ∨ ∃ b o, a = some ⟨b, o, none⟩ ∧ b < w.heap.size ∧ ∀ i (hi : i < l.length), w.cell? ⟨b, o + i * 3, none⟩ = some (.int .i64 l[i].k) ∧ w.cell? ⟨b, o + i * 3 + 1, none⟩ = some (.int .i64 l[i].n) ∧ w.cell? ⟨b, o + i * 3 + 2, none⟩ = some (.string l[i].s)) := by
  obtain ⟨h1, a, cap, rfl, h2⟩ := h
  refine ⟨h1, a, cap, rfl, ?_⟩
  rcases h2 with ⟨h2, _⟩ | ⟨b, o, rfl, hlt, _, hc⟩
  · exact .inl (List.length_eq_zero_iff.1 h2)
  · refine .inr ⟨b, o, rfl, hlt, fun i hi => ?_⟩
    obtain ⟨e1, e2, e3⟩ := op_get l i hi
    exact ⟨hc _ _ e1, hc _ _ e2, hc _ _ e3⟩
theorem take_eq {α : Type} {l m : List α} {j : Nat} (h1 : j < l.length) (h2 : j < m.length) (h : l.take j = m.take j) (he : l[j] = m[j]) : l.take (j + 1) = m.take (j + 1) := by
  rw [List.take_succ_eq_append_getElem h1, List.take_succ_eq_append_getElem h2, h, he]
/-- a block that stays -/
theorem kept {W W' : World} {g : Nat} {o : Obj} (hb : Below W.heap.size W W') (h : W.heap[g]? = some o) : W'.heap[g]? = some o := (hb.block g (Array.getElem?_eq_some_iff.1 h).1).trans h
end Go.Proofs.Ytcjmjdgcehmigaa
