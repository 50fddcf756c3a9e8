/-
  What a reader is in memory, what programs are in memory, and what stays when a reader goes on. Nothing of the program's code is walked here. No conditions.
-/
import Derived.Test.YtkpmpnebmkeocaaGreatDoorLL
import Derived.Test.YtkpmpnebmkeocaaGreatDoorMA
import Derived.Deep.RegionHeldLaw
import Derived.Deep.RegionHeld3
import Derived.Deep.AppendLies
import Derived.Deep.RegionLaw
import Derived.Deep.LoopGhost
set_option linter.unusedVariables false
section
namespace Go.Proofs.YtkpmpnebmkeocaaGreatDoor
open Go.RowKit

structure Only (r : Nat) (w w' : World) : Prop where
  os : w'.os = w.os
  tape : w'.tape = w.tape
  output : w'.output = w.output
  size : w.heap.size ≤ w'.heap.size
  block : ∀ k, k < w.heap.size → k ≠ r → w'.heap[k]? = w.heap[k]?

theorem Only.refl (r : Nat) (w : World) : Only r w w := ⟨rfl, rfl, rfl, Nat.le_refl _, fun _ _ _ => rfl⟩
theorem Only.trans {r : Nat} {a b c : World} (h : Only r a b) (k : Only r b c) : Only r a c :=
  ⟨k.os.trans h.os, k.tape.trans h.tape, k.output.trans h.output, Nat.le_trans h.size k.size, fun i hi hr => (k.block i (Nat.lt_of_lt_of_le hi h.size) hr).trans (h.block i hi hr)⟩
theorem Only.of_below {r : Nat} {w w' : World} (h : Below w.heap.size w w') : Only r w w' := ⟨h.os, h.tape, h.output, h.size, fun k hk _ => h.block k hk⟩
theorem Only.below {r : Nat} {a w w' : World} (h : Only r a w) (hb : Below w.heap.size w w') : Only r a w' := h.trans (Only.of_below hb)
theorem Only.alloc {r : Nat} {a w : World} (h : Only r a w) (o : Obj) : Only r a (w.alloc o) := h.below ((Below.refl _ _).alloc (Nat.le_refl _) o)
theorem Only.drewN {r : Nat} {a w : World} (h : Only r a w) (n : Nat) : Only r a (w.drewN n) := ⟨h.os, h.tape, h.output, h.size, h.block⟩
theorem Only.drew {r : Nat} {a w : World} (h : Only r a w) : Only r a w.drew := ⟨h.os, h.tape, h.output, h.size, h.block⟩
theorem Only.setCell {r : Nat} {a w : World} (h : Only r a w) {p : Addr} (hp : p.block = r ∨ a.heap.size ≤ p.block) (u : Value) : Only r a (w.setCell p u) :=
  ⟨h.os, h.tape, h.output, by simpa [World.setCell] using h.size, fun k hk hr => by
    rw [Below.heap_setCell _ _ _ _ (by rcases hp with hp | hp <;> omega)]; exact h.block k hk hr⟩
theorem Only.grown {r : Nat} {a w w' : World} {row : Option Nat} (h : Only r a w) (hg : w.grownBy w' row) (hr : ∀ k, row = some k → a.heap.size ≤ k) : Only r a w' :=
  ⟨hg.os.trans h.os, hg.tape.trans h.tape, hg.output.trans h.output, Nat.le_trans h.size hg.size, fun k hk hkr => by
    rw [hg.block k (Nat.lt_of_lt_of_le hk h.size) (fun e => by have := hr k e.symm; omega)]; exact h.block k hk hkr⟩
theorem Only.cell {r : Nat} {w w' : World} (h : Only r w w') {p : Addr} (hp : p.block < w.heap.size) (hr : p.block ≠ r) : w'.cell? p = w.cell? p := World.cell?_of_block (w := w) (h.block p.block hp hr)
theorem Only.frozen {r : Nat} {w w' : World} (h : Only r w w') {p : Addr} (hp : p.block < w.heap.size) (hr : p.block ≠ r) : w'.frozen? p = w.frozen? p := World.frozen?_of_block (w := w) (h.block p.block hp hr)
theorem Only.to_below {r B : Nat} {a w w' : World} (h : Only r w w') (hr : B ≤ r) (ha : Below B a w) (hB : B ≤ w.heap.size) : Below B a w' :=
  ha.trans ⟨h.os, h.tape, h.output, h.size, fun k hk => h.block k (by omega) (by omega)⟩

theorem TokAt.only {r : Nat} {w w' : World} {v : Value} {ts : List M.Tok} (h : TokAt w v ts) (ho : Only r w w') (hv : ∀ b o n c, v = .slice (some ⟨b, o, none⟩) n c → b ≠ r) : TokAt w' v ts := by
  obtain ⟨h1, h2, a, cap, rfl, h3⟩ := h
  refine ⟨h1, h2, a, cap, rfl, ?_⟩
  rcases h3 with h3 | ⟨b, o, rfl, hlt, hc⟩
  · exact .inl h3
  · have hr := hv b o _ _ rfl
    refine .inr ⟨b, o, rfl, Nat.lt_of_lt_of_le hlt ho.size, fun i hi => ?_⟩
    obtain ⟨c1, c2, c3⟩ := hc i hi
    exact ⟨by rw [ho.cell (p := ⟨b, o + i * 3, none⟩) hlt hr]; exact c1, by rw [ho.cell (p := ⟨b, o + i * 3 + 1, none⟩) hlt hr]; exact c2, by rw [ho.cell (p := ⟨b, o + i * 3 + 2, none⟩) hlt hr]; exact c3⟩

def TokC (w : World) (r : Nat) (v : Value) (ts : List M.Tok) : Prop :=
  TokAt w v ts ∧ (∀ b o n c, v = .slice (some ⟨b, o, none⟩) n c → b < r) ∧ ∀ a n c, v = .slice a n c → n ≤ c ∧ c ≤ maxLen
theorem TokC.only {r : Nat} {w w' : World} {v : Value} {ts : List M.Tok} (h : TokC w r v ts) (ho : Only r w w') : TokC w' r v ts := ⟨h.1.only ho fun b o n c e => Nat.ne_of_lt (h.2.1 b o n c e), h.2⟩
theorem TokC.keep {r : Nat} {w w' : World} {v : Value} {ts : List M.Tok} (h : TokC w r v ts) (hb : Below w.heap.size w w') : TokC w' r v ts := ⟨h.1.keep hb, h.2⟩

theorem cells7 {w : World} {r : Nat} {T : TypeId} {v0 v1 v2 v3 v4 v5 v6 : Value} (h : w.heap[r]? = some (.cells #[v0, v1, v2, v3, v4, v5, v6] T (0, 0))) :
    w.cell? ⟨r, 0, none⟩ = some v0 ∧ w.cell? ⟨r, 1, none⟩ = some v1 ∧ w.cell? ⟨r, 2, none⟩ = some v2 ∧ w.cell? ⟨r, 3, none⟩ = some v3 ∧ w.cell? ⟨r, 4, none⟩ = some v4 ∧ w.cell? ⟨r, 5, none⟩ = some v5 ∧ w.cell? ⟨r, 6, none⟩ = some v6 ∧ (∀ i, w.frozen? ⟨r, i, none⟩ = false) ∧ r < w.heap.size := by
  refine ⟨?_, ?_, ?_, ?_, ?_, ?_, ?_, fun i => Lib.frozen_of_heap h i, (Array.getElem?_eq_some_iff.1 h).1⟩
  all_goals (rw [Lib.cell_of_heap h]; rfl)

structure Rd (w : World) (r : Nat) (S : M.St) : Prop where
  heap : ∃ v, w.heap[r]? = some (.cells #[v, .int .i64 S.fin, .int .i64 S.now.k, .string S.now.t, .int .i64 S.now.p, .int .i64 (S.n : Int), .int .i64 (S.d : Int)] 120 (0, 0)) ∧ TokC w r v S.rest
  few : S.rest.length ≤ 4398046511104
  lim : S.n ≤ 2000 ∧ S.d ≤ 32
structure Rd0 (w : World) (r : Nat) (S : M.St) : Prop where
  heap : ∃ v a b c, w.heap[r]? = some (.cells #[v, .int .i64 S.fin, a, b, c, .int .i64 (S.n : Int), .int .i64 (S.d : Int)] 120 (0, 0)) ∧ TokC w r v S.rest
  few : S.rest.length ≤ 4398046511104
  lim : S.n ≤ 2000 ∧ S.d ≤ 32
theorem Rd.lt {w : World} {r : Nat} {S : M.St} (h : Rd w r S) : r < w.heap.size := by
  obtain ⟨v, hv, _⟩ := h.heap
  exact (Array.getElem?_eq_some_iff.1 hv).1
theorem Rd.below {w w' : World} {r : Nat} {S : M.St} (h : Rd w r S) (hb : Below w.heap.size w w') : Rd w' r S := by
  have hl := h.lt
  obtain ⟨v, hv, ht⟩ := h.heap
  exact ⟨⟨v, by rw [hb.block r hl]; exact hv, ht.keep hb⟩, h.few, h.lim⟩
theorem Rd.above {w w' : World} {r : Nat} {S : M.St} (h : Rd w r S) (hz : w.heap.size ≤ w'.heap.size) (hb : ∀ k, k ≤ r → w'.heap[k]? = w.heap[k]?) : Rd w' r S := by
  obtain ⟨v, hv, ⟨h1, h2, a, cap, rfl, h3⟩, hap, hcap⟩ := h.heap
  refine ⟨⟨_, by rw [hb r (Nat.le_refl _)]; exact hv, ⟨h1, h2, a, cap, rfl, ?_⟩, hap, hcap⟩, h.few, h.lim⟩
  rcases h3 with h3 | ⟨b, o, rfl, hlt, hc⟩
  · exact .inl h3
  · have hr := hap b o _ _ rfl
    have hcell : ∀ i, w'.cell? ⟨b, i, none⟩ = w.cell? ⟨b, i, none⟩ := fun i => World.cell?_of_block (w := w) (hb b (Nat.le_of_lt hr))
    refine .inr ⟨b, o, rfl, Nat.lt_of_lt_of_le hlt hz, fun i hi => ?_⟩
    rw [hcell, hcell, hcell]
    exact hc i hi
theorem Rd.setCell {w : World} {r : Nat} {S : M.St} (h : Rd w r S) {p : Addr} (hp : r < p.block) (u : Value) : Rd (w.setCell p u) r S :=
  h.above (by simp [World.setCell]) fun k hk => Below.heap_setCell _ _ _ _ (by omega)
theorem Rd.grown {w w' : World} {r : Nat} {S : M.St} {row : Option Nat} (h : Rd w r S) (hg : w.grownBy w' row) (hr : ∀ k, row = some k → r < k) : Rd w' r S :=
  h.above hg.size fun k hk => hg.block k (Nat.lt_of_le_of_lt hk h.lt) (fun e => by have := hr k e.symm; omega)
theorem Rd.alloc {w : World} {r : Nat} {S : M.St} (h : Rd w r S) (o : Obj) : Rd (w.alloc o) r S := h.below ((Below.refl _ _).alloc (Nat.le_refl _) o)

structure Keep (X : Nat → Prop) (w w' : World) : Prop where
  size : w.heap.size ≤ w'.heap.size
  block : ∀ k, k < w.heap.size → ¬ X k → w'.heap[k]? = w.heap[k]?
theorem Keep.trans {X : Nat → Prop} {a b c : World} (h : Keep X a b) (k : Keep X b c) : Keep X a c :=
  ⟨Nat.le_trans h.size k.size, fun i hi hx => (k.block i (Nat.lt_of_lt_of_le hi h.size) hx).trans (h.block i hi hx)⟩
theorem Only.keep {r : Nat} {w w' : World} {X : Nat → Prop} (h : Only r w w') (hr : X r) : Keep X w w' := ⟨h.size, fun k hk hx => h.block k hk fun e => hx (e ▸ hr)⟩
theorem Below.keepX {w w' : World} {X : Nat → Prop} (h : Below w.heap.size w w') : Keep X w w' := ⟨h.size, fun k hk _ => h.block k hk⟩
theorem keep_set {w : World} {X : Nat → Prop} {p : Addr} (hp : X p.block) (u : Value) : Keep X w (w.setCell p u) :=
  ⟨by simp [World.setCell], fun k hk hx => Below.heap_setCell _ _ _ _ fun e => hx (e ▸ hp)⟩
theorem keep_grown {w w' : World} {X : Nat → Prop} {row : Option Nat} (hg : w.grownBy w' row) (hr : ∀ k, row = some k → X k) : Keep X w w' :=
  ⟨hg.size, fun k hk hx => hg.block k hk fun e => hx (hr k e.symm)⟩
def Old (w : World) : Nat → Prop := fun b => b < w.heap.size

def SlAt (w : World) (X : Nat → Prop) (v : Value) (n : Nat) (cs : List Value) : Prop :=
  n ≤ 4398046511104 ∧ ∃ a cap, v = .slice a n cap ∧ ((n = 0 ∧ cs = []) ∨ ∃ b o, a = some ⟨b, o, none⟩ ∧ b < w.heap.size ∧ (¬ X b ∧ n ≤ cap ∧ cap ≤ maxLen) ∧ ∀ i u, cs[i]? = some u → w.cell? ⟨b, o + i, none⟩ = some u)

theorem SlAt.keep {w w' : World} {X : Nat → Prop} {v : Value} {n : Nat} {cs : List Value} (h : SlAt w X v n cs) (ho : Keep X w w') : SlAt w' X v n cs := by
  obtain ⟨h1, a, cap, rfl, h2⟩ := h
  refine ⟨h1, a, cap, rfl, ?_⟩
  rcases h2 with h2 | ⟨b, o, rfl, hlt, hr, hc⟩
  · exact .inl h2
  · exact .inr ⟨b, o, rfl, Nat.lt_of_lt_of_le hlt ho.size, hr, fun i u hu => by rw [World.cell?_of_block (w := w) (a := ⟨b, o + i, none⟩) (ho.block b hlt hr.1)]; exact hc i u hu⟩
theorem SlAt.weak {w : World} {X Y : Nat → Prop} {v : Value} {n : Nat} {cs : List Value} (h : SlAt w X v n cs) (hw : ∀ b, b < w.heap.size → ¬ X b → ¬ Y b) : SlAt w Y v n cs := by
  obtain ⟨h1, a, cap, rfl, h2⟩ := h
  refine ⟨h1, a, cap, rfl, ?_⟩
  rcases h2 with h2 | ⟨b, o, rfl, hlt, hr, hc⟩
  · exact .inl h2
  · exact .inr ⟨b, o, rfl, hlt, ⟨hw b hlt hr.1, hr.2⟩, hc⟩
theorem SlAt.nil (w : World) (X : Nat → Prop) : SlAt w X (.slice none 0 0) 0 [] := ⟨Nat.zero_le _, none, 0, rfl, .inl ⟨rfl, rfl⟩⟩
theorem SlAt.of_owns {w : World} {X : Nat → Prop} {base size n : Nat} {e : TypeId} {v : Value} {cs : List Value} (h : w.ownsRow base e size v n cs) (hr : ∀ b, base ≤ b → ¬ X b) (hn : n ≤ 4398046511104) : SlAt w X v n cs := by
  refine ⟨hn, ?_⟩
  have hc := fun g hg => h.cells (g := g) hg
  have hl := h.1
  rcases h.2 with ⟨rfl, h0⟩ | ⟨g, cap, cur, rfl, hb, hh, hc1, hc2, _⟩
  · refine ⟨none, 0, by rw [h0], .inl ⟨h0, ?_⟩⟩
    rw [h0] at hl; exact List.length_eq_zero_iff.1 (by omega)
  · refine ⟨some ⟨g, 0, none⟩, cap, rfl, .inr ⟨g, 0, rfl, (Array.getElem?_eq_some_iff.1 hh).1, ⟨hr g hb, hc1, hc2⟩, fun i u hu => ?_⟩⟩
    have := hc g rfl i u hu
    rw [add0] at this
    exact this

def opCells (o : M.Opd) : List Value := [.int .i64 o.k, .int .i64 o.n, .string o.s]
def OpsAt (w : World) (X : Nat → Prop) (v : Value) (l : List M.Opd) : Prop := SlAt w X v l.length (l.flatMap opCells)
def StrsAt (w : World) (X : Nat → Prop) (v : Value) (l : List ByteArray) : Prop := SlAt w X v l.length (l.map .string)

def RowAt (w : World) (X : Nat → Prop) : List Value → M.Tr → Prop
  | cs, .nil => cs = []
  | cs, .cons op x y p a pr th el nx => ∃ va vp vt ve ct ce rest, cs = .int .i64 op :: .string x :: .string y :: .string p :: va :: vp :: vt :: ve :: rest ∧
      OpsAt w X va a ∧ StrsAt w X vp pr ∧ (SlAt w X vt th.len ct ∧ RowAt w X ct th) ∧ (SlAt w X ve el.len ce ∧ RowAt w X ce el) ∧ RowAt w X rest nx
def StmAt (w : World) (X : Nat → Prop) (v : Value) (t : M.Tr) : Prop := ∃ cs, SlAt w X v t.len cs ∧ RowAt w X cs t
theorem RowAt.keep {w w' : World} {X : Nat → Prop} (ho : Keep X w w') : ∀ {t : M.Tr} {cs : List Value}, RowAt w X cs t → RowAt w' X cs t
  | .nil, _, h => h
  | .cons _ _ _ _ _ _ th el nx, _, ⟨va, vp, vt, ve, ct, ce, rest, e, h1, h2, ⟨h3, h4⟩, ⟨h5, h6⟩, h7⟩ =>
    ⟨va, vp, vt, ve, ct, ce, rest, e, SlAt.keep h1 ho, SlAt.keep h2 ho, ⟨h3.keep ho, RowAt.keep ho h4⟩, ⟨h5.keep ho, RowAt.keep ho h6⟩, RowAt.keep ho h7⟩
theorem RowAt.weak {w : World} {X Y : Nat → Prop} (hw : ∀ b, b < w.heap.size → ¬ X b → ¬ Y b) : ∀ {t : M.Tr} {cs : List Value}, RowAt w X cs t → RowAt w Y cs t
  | .nil, _, h => h
  | .cons _ _ _ _ _ _ th el nx, _, ⟨va, vp, vt, ve, ct, ce, rest, e, h1, h2, ⟨h3, h4⟩, ⟨h5, h6⟩, h7⟩ =>
    ⟨va, vp, vt, ve, ct, ce, rest, e, SlAt.weak h1 hw, SlAt.weak h2 hw, ⟨h3.weak hw, RowAt.weak hw h4⟩, ⟨h5.weak hw, RowAt.weak hw h6⟩, RowAt.weak hw h7⟩
theorem StmAt.keep {w w' : World} {X : Nat → Prop} {v : Value} {t : M.Tr} (h : StmAt w X v t) (ho : Keep X w w') : StmAt w' X v t := by
  obtain ⟨cs, h1, h2⟩ := h
  exact ⟨cs, h1.keep ho, RowAt.keep ho h2⟩
theorem StmAt.weak {w : World} {X Y : Nat → Prop} {v : Value} {t : M.Tr} (h : StmAt w X v t) (hw : ∀ b, b < w.heap.size → ¬ X b → ¬ Y b) : StmAt w Y v t := by
  obtain ⟨cs, h1, h2⟩ := h
  exact ⟨cs, h1.weak hw, RowAt.weak hw h2⟩
theorem RowAt.app {w : World} {X : Nat → Prop} : ∀ {t u : M.Tr} {cs ds : List Value}, RowAt w X cs t → RowAt w X ds u → RowAt w X (cs ++ ds) (t.app u)
  | .nil, u, cs, ds, h, k => by
    have e : cs = [] := h
    subst e; exact k
  | .cons _ _ _ _ _ _ th el nx, u, cs, ds, ⟨va, vp, vt, ve, ct, ce, rest, e, h1, h2, h3, h5, h7⟩, k => by
    subst e
    exact ⟨va, vp, vt, ve, ct, ce, rest ++ ds, rfl, h1, h2, h3, h5, RowAt.app h7 k⟩
theorem RowAt.one {w : World} {X : Nat → Prop} {op : Int} {x y p : ByteArray} {a : List M.Opd} {pr : List ByteArray} {th el : M.Tr} {va vp vt ve : Value}
    (h1 : OpsAt w X va a) (h2 : StrsAt w X vp pr) (h3 : StmAt w X vt th) (h4 : StmAt w X ve el) :
    RowAt w X [.int .i64 op, .string x, .string y, .string p, va, vp, vt, ve] (M.one op x y p a pr th el) := by
  obtain ⟨ct, a1, a2⟩ := h3
  obtain ⟨ce, b1, b2⟩ := h4
  exact ⟨va, vp, vt, ve, ct, ce, [], rfl, h1, h2, ⟨a1, a2⟩, ⟨b1, b2⟩, rfl⟩
theorem OpsAt.nil (w : World) (X : Nat → Prop) : OpsAt w X (.slice none 0 0) [] := SlAt.nil w X
theorem StrsAt.nil (w : World) (X : Nat → Prop) : StrsAt w X (.slice none 0 0) [] := SlAt.nil w X
theorem StmAt.nil (w : World) (X : Nat → Prop) : StmAt w X (.slice none 0 0) .nil := ⟨[], SlAt.nil w X, rfl⟩

def FnsAt (w : World) (X : Nat → Prop) : List Value → List M.Fn → Prop
  | cs, [] => cs = []
  | cs, f :: l => ∃ vp vb rest, cs = .string f.name :: vp :: vb :: rest ∧ StrsAt w X vp f.ps ∧ StmAt w X vb f.body ∧ FnsAt w X rest l
def ProgAt (w : World) (X : Nat → Prop) (v : Value) (l : List M.Fn) : Prop := ∃ cs, SlAt w X v l.length cs ∧ FnsAt w X cs l
theorem FnsAt.keep {w w' : World} {X : Nat → Prop} (ho : Keep X w w') : ∀ {l : List M.Fn} {cs : List Value}, FnsAt w X cs l → FnsAt w' X cs l
  | [], _, h => h
  | _ :: _, _, ⟨vp, vb, rest, e, h1, h2, h3⟩ => ⟨vp, vb, rest, e, SlAt.keep h1 ho, h2.keep ho, FnsAt.keep ho h3⟩
theorem FnsAt.weak {w : World} {X Y : Nat → Prop} (hw : ∀ b, b < w.heap.size → ¬ X b → ¬ Y b) : ∀ {l : List M.Fn} {cs : List Value}, FnsAt w X cs l → FnsAt w Y cs l
  | [], _, h => h
  | _ :: _, _, ⟨vp, vb, rest, e, h1, h2, h3⟩ => ⟨vp, vb, rest, e, SlAt.weak h1 hw, h2.weak hw, FnsAt.weak hw h3⟩
theorem ProgAt.keep {w w' : World} {X : Nat → Prop} {v : Value} {l : List M.Fn} (h : ProgAt w X v l) (ho : Keep X w w') : ProgAt w' X v l := by
  obtain ⟨cs, h1, h2⟩ := h
  exact ⟨cs, h1.keep ho, FnsAt.keep ho h2⟩
theorem ProgAt.weak {w : World} {X Y : Nat → Prop} {v : Value} {l : List M.Fn} (h : ProgAt w X v l) (hw : ∀ b, b < w.heap.size → ¬ X b → ¬ Y b) : ProgAt w Y v l := by
  obtain ⟨cs, h1, h2⟩ := h
  exact ⟨cs, h1.weak hw, FnsAt.weak hw h2⟩
theorem FnsAt.app {w : World} {X : Nat → Prop} : ∀ {l m : List M.Fn} {cs ds : List Value}, FnsAt w X cs l → FnsAt w X ds m → FnsAt w X (cs ++ ds) (l ++ m)
  | [], m, cs, ds, h, k => by
    have e : cs = [] := h
    subst e; exact k
  | _ :: _, m, cs, ds, ⟨vp, vb, rest, e, h1, h2, h3⟩, k => by
    subst e
    exact ⟨vp, vb, rest ++ ds, rfl, h1, h2, FnsAt.app h3 k⟩

def stopOf (f : M.Flt) : List PanicEntry := [{ v := .iface 108 (.agg #[.int .i64 f.1, .int .i64 f.2]), recovered := false }]

def Ends {α : Type} (r : Nat) (w : World) (enc : α → Value → World → Prop) (res : M.Res α) (e : Ending) (w' : World) : Prop :=
  Only r w w' ∧ (∀ S a, res = .ok (S, a) → ∃ v, e = .returned v ∧ Rd w' r S ∧ enc a v w') ∧ (∀ f, res = .error f → e = .panicked (stopOf f))
def M.Tr.sz : M.Tr → Nat
  | .nil => 0
  | .cons _ _ _ _ _ _ th el nx => 1 + th.sz + el.sz + nx.sz
def NoX : Nat → Prop := fun _ => False
theorem SlAt.bel {w w' : World} {X : Nat → Prop} {v : Value} {n : Nat} {cs : List Value} (h : SlAt w X v n cs) (hb : Below w.heap.size w w') : SlAt w' X v n cs := h.keep (Below.keepX hb)
theorem StmAt.bel {w w' : World} {X : Nat → Prop} {v : Value} {t : M.Tr} (h : StmAt w X v t) (hb : Below w.heap.size w w') : StmAt w' X v t := h.keep (Below.keepX hb)
theorem kept {W W' : World} {g : Nat} {o : Obj} (hb : Below W.heap.size W W') (h : W.heap[g]? = some o) : W'.heap[g]? = some o := (hb.block g (Array.getElem?_eq_some_iff.1 h).1).trans h
end Go.Proofs.YtkpmpnebmkeocaaGreatDoor
end
section
namespace Go.Proofs.YtkpmpnebmkeocaaGreatDoor
open Go.RowKit

theorem beq_list (a b : ByteArray) : (a.toList == b.toList) = decide (a = b) := by
  rw [Bool.eq_iff_iff]; simp [toList_inj]
theorem nowNil (fin : Int) : M.now1 fin [] = ⟨-1, M.em, fin⟩ := rfl
theorem nowYes (fin : Int) (x : M.Tok) (l : List M.Tok) (h : M.may1 x = true) : M.now1 fin (x :: l) = x := by simp [M.now1, h]
theorem nowNo (fin : Int) (x : M.Tok) (l : List M.Tok) (h : M.may1 x = false) : M.now1 fin (x :: l) = ⟨-1, M.em, x.p⟩ := by simp [M.now1, h]

theorem three {w : World} {r : Nat} {T : TypeId} {v0 v1 v2 v3 v4 v5 v6 : Value} (h : w.heap[r]? = some (.cells #[v0, v1, v2, v3, v4, v5, v6] T (0, 0))) (a b c : Value) :
    (((w.setCell ⟨r, 2, none⟩ a).setCell ⟨r, 3, none⟩ b).setCell ⟨r, 4, none⟩ c).heap[r]? = some (.cells #[v0, v1, a, b, c, v5, v6] T (0, 0)) := by
  rw [heap_setCell_same _ _ _ _ _ _ (heap_setCell_same _ _ _ _ _ _ (heap_setCell_same _ _ _ _ _ _ h))]
  rfl
theorem threeOnly (w : World) (r : Nat) (a b c : Value) : Only r w (((w.setCell ⟨r, 2, none⟩ a).setCell ⟨r, 3, none⟩ b).setCell ⟨r, 4, none⟩ c) :=
  (((Only.refl r w).setCell (.inl rfl) _).setCell (.inl rfl) _).setCell (.inl rfl) _

set_option maxHeartbeats 400000 in
theorem look_any (r : Nat) (S : M.St) (w : World) (h : Rd0 w r S) :
    Calls Tryz.prog 95 #[.pointer (some ⟨r, 0, none⟩)] w fun e w' => e = .returned (.tuple #[]) ∧ Rd w' r S ∧ Only r w w' := by
  obtain ⟨rest, fin, n, d⟩ := S
  obtain ⟨⟨v, va, vb, vc, hh, ⟨⟨hl1, hl2, a, cap, rfl, hT⟩, hap, hcap⟩⟩, hfew, hlim⟩ := h
  have hTC : TokC w r (.slice a rest.length cap) rest := ⟨⟨hl1, hl2, a, cap, rfl, hT⟩, hap, hcap⟩
  simp only at hh hl1 hl2 hT hap hcap hfew
  obtain ⟨hv, hfin, hk, ht, hp, hn, hd, hfree, hlt⟩ := cells7 hh
  cases rest with
  | nil =>
    go_enter Tryz.func95, Tryz.ntmps95
    go_wp2_with fail
    refine bodyPost_ret (results_none rfl _ _ _) rfl ⟨rfl, ⟨⟨_, ?_, hTC.only (threeOnly w r _ _ _)⟩, hfew, hlim⟩, threeOnly w r _ _ _⟩
    exact three hh _ _ _
  | cons x l =>
    rcases hT with hT | ⟨b, o, rfl, hbl, hc⟩
    · cases hT
    obtain ⟨c1, c2, c3⟩ := hc 0 (by simp)
    have hne : b ≠ r := Nat.ne_of_lt (hap b o _ _ rfl)
    have hne' : ¬ r = b := fun e => hne e.symm
    obtain ⟨hcp, hcm⟩ := hcap _ _ _ rfl
    unfold maxLen at hcm
    have hcp1 : 1 ≤ cap := by simp at hcp; omega
    simp at c1 c2 c3
    have hone : ∀ W, Only r w W → TokAt W (.slice (some ⟨b, o, none⟩) 1 cap) [x] := fun W hW =>
      ⟨by simp, fun y hy => by simp at hy; subst hy; exact hl2 _ (by simp), some ⟨b, o, none⟩, cap, rfl, .inr ⟨b, o, rfl, Nat.lt_of_lt_of_le hbl hW.size, fun i hi => by
        obtain rfl : i = 0 := by simp at hi; exact hi
        refine ⟨?_, ?_, ?_⟩
        · rw [hW.cell (p := ⟨b, _, none⟩) hbl hne]; simpa using c1
        · rw [hW.cell (p := ⟨b, _, none⟩) hbl hne]; simpa using c2
        · rw [hW.cell (p := ⟨b, _, none⟩) hbl hne]; simpa using c3⟩⟩
    have hmay : ∀ W, Only r w W → Calls Tryz.prog 103 #[.slice (some ⟨b, o, none⟩) 1 cap] W fun e w' => e = .returned (.bool (M.may1 x)) ∧ Below W.heap.size W w' := fun W hW => by
      have := may_any _ _ W (hone W hW)
      simp only [M.may, List.all_cons, List.all_nil, Bool.and_true] at this
      exact this
    go_enter Tryz.func95, Tryz.ntmps95
    go_wp2_with fail
    have hO := threeOnly w r (.int .i64 (-1)) (.string ⟨#[]⟩) (.int .i64 fin)
    have hH := three hh (.int .i64 (-1)) (.string ⟨#[]⟩) (.int .i64 fin)
    refine (hmay _ hO).mono ?_
    rintro e w1 ⟨rfl, hb1⟩
    have hO1 : Only r w w1 := hO.below hb1
    have hH1 := (hb1.block r (Array.getElem?_eq_some_iff.1 hH).1).trans hH
    clear hH
    obtain ⟨gv, gfin, gk, gt, gp, gn, gd, gfree, glt⟩ := cells7 hH1
    have d1 : w1.cell? ⟨b, o, none⟩ = some (.int .i64 x.k) := by rw [hO1.cell (p := ⟨b, _, none⟩) hbl hne]; exact c1
    have d2 : w1.cell? ⟨b, o + 1, none⟩ = some (.string x.t) := by rw [hO1.cell (p := ⟨b, _, none⟩) hbl hne]; exact c2
    have d3 : w1.cell? ⟨b, o + 2, none⟩ = some (.int .i64 x.p) := by rw [hO1.cell (p := ⟨b, _, none⟩) hbl hne]; exact c3
    clear hv hfin hk ht hp hn hd hfree
    cases hm : M.may1 x
    · have HM := hid hm
      clear hm
      go_wp2_with fail
      go_end0
      have hO2 : Only r w (w1.setCell ⟨r, 4, none⟩ (.int .i64 x.p)) := hO1.setCell (.inl rfl) _
      refine ⟨rfl, ⟨⟨_, ?_, hTC.only hO2⟩, hfew, hlim⟩, hO2⟩
      rw [heap_setCell_same _ _ _ _ _ _ hH1]
      simp only [M.St.now, nowNo _ _ _ HM.out]
      rfl
    · have HM := hid hm
      clear hm
      go_wp2_with fail
      go_end0
      have hO2 : Only r w ((((w1.setCell ⟨r, 2, none⟩ (.int .i64 x.k)).setCell ⟨r, 3, none⟩ (.string x.t)).setCell ⟨r, 4, none⟩ (.int .i64 x.p)).setCell ⟨r, 4, none⟩ (.int .i64 x.p)) :=
        (hO1.trans (threeOnly w1 r _ _ _)).setCell (.inl rfl) _
      refine ⟨rfl, ⟨⟨_, ?_, hTC.only hO2⟩, hfew, hlim⟩, hO2⟩
      rw [heap_setCell_same _ _ _ _ _ _ (three hH1 _ _ _)]
      simp only [M.St.now, nowYes _ _ _ HM.out]
      rfl

theorem fail_any (r : Nat) (S : M.St) (c : Int) (w : World) (h : Rd w r S) :
    Calls Tryz.prog 121 #[.pointer (some ⟨r, 0, none⟩), .int .i64 c] w fun e w' => e = .panicked (stopOf (c, S.now.p)) ∧ w' = w := by
  obtain ⟨⟨v, hh, ht⟩, _, _⟩ := h
  obtain ⟨hv, hfin, hk, ht, hp, hn, hd, hfree, hlt⟩ := cells7 hh
  go_enter Tryz.func121, Tryz.ntmps121
  go_wp2_with fail
  exact ⟨rfl, rfl, rfl⟩

theorem must_yes (r : Nat) (w : World) :
    Calls Tryz.prog 116 #[.pointer (some ⟨r, 0, none⟩), .bool true] w fun e w' => e = .returned (.tuple #[]) ∧ w' = w := by
  go_enter Tryz.func116, Tryz.ntmps116
  go_wp2_with fail
  go_end0
  exact ⟨rfl, rfl⟩
theorem must_no (r : Nat) (S : M.St) (w : World) (h : Rd w r S) :
    Calls Tryz.prog 116 #[.pointer (some ⟨r, 0, none⟩), .bool false] w fun e w' => e = .panicked (stopOf (20, S.now.p)) ∧ w' = w := by
  go_enter Tryz.func116, Tryz.ntmps116
  go_wp2_with fail
  refine (fail_any r S _ _ h).mono ?_
  rintro e w' ⟨rfl, rfl⟩
  exact ⟨rfl, rfl, rfl⟩

theorem at_any (r : Nat) (S : M.St) (t : ByteArray) (w : World) (h : Rd w r S) :
    Calls Tryz.prog 120 #[.pointer (some ⟨r, 0, none⟩), .string t] w fun e w' => e = .returned (.bool (S.at t)) ∧ w' = w := by
  obtain ⟨⟨v, hh, ht⟩, _, _⟩ := h
  obtain ⟨hv, hfin, hk, ht, hp, hn, hd, hfree, hlt⟩ := cells7 hh
  go_enter Tryz.func120, Tryz.ntmps120
  go_wp2_with fail
  go_ret
  exact ⟨ret_bool (beq_list _ _), rfl⟩

theorem kw_list (s : ByteArray) : M.kw s = decide (s.toList = [102, 117, 110] ∨ s.toList = [111, 117, 116] ∨ s.toList = [114, 101, 116, 117, 114, 110] ∨ s.toList = [105, 102] ∨ s.toList = [101, 108, 115, 101] ∨ s.toList = [119, 104, 105, 108, 101] ∨ s.toList = [110, 101, 119] ∨ s.toList = [112, 114, 111, 116, 111] ∨ s.toList = [99, 97, 108, 108] ∨ s.toList = [105, 110] ∨ s.toList = [110, 117, 108, 108] ∨ s.toList = [116, 114, 117, 101] ∨ s.toList = [102, 97, 108, 115, 101]) := by
  have e : ∀ (b : ByteArray) (l : List UInt8), b.data.toList = l → (s = b ↔ s.toList = l) := fun b l h => by rw [← h, ← ByteArray.toList_eq, toList_inj]
  unfold M.kw
  apply decide_eq_decide.2
  rw [e M.kFun _ rfl, e M.kOut _ rfl, e M.kReturn _ rfl, e M.kIf _ rfl, e M.kElse _ rfl, e M.kWhile _ rfl, e M.kNew _ rfl, e M.kProto _ rfl, e M.kCall _ rfl, e M.kIn _ rfl, e M.kNull _ rfl, e M.kTrue _ rfl, e M.kFalse _ rfl]
  exact Iff.rfl

set_option maxHeartbeats 400000 in
theorem keyword_any (s : ByteArray) (w : World) :
    Calls Tryz.prog 131 #[.string s] w fun e w' => e = .returned (.bool (M.kw s)) ∧ w' = w := by
  rw [kw_list]
  go_enter Tryz.func131, Tryz.ntmps131
  go_wp2_with fail
  all_goals
    go_ret
    refine ⟨ret_bool ?_, rfl⟩
    simp_all

theorem atName_any (r : Nat) (S : M.St) (w : World) (h : Rd w r S) :
    Calls Tryz.prog 118 #[.pointer (some ⟨r, 0, none⟩)] w fun e w' => e = .returned (.bool S.isName) ∧ w' = w := by
  obtain ⟨⟨v, hh, ht⟩, _, _⟩ := h
  obtain ⟨hv, hfin, hk, ht, hp, hn, hd, hfree, hlt⟩ := cells7 hh
  by_cases hk0 : S.now.k = 0
  · have HK := hid hk0
    rw [hk0] at hk
    clear hk0
    go_enter Tryz.func118, Tryz.ntmps118
    go_wp2_with (go_at_call 131; refine (keyword_any _ _).mono ?_; rintro e w' ⟨rfl, rfl⟩)
    go_ret
    refine ⟨ret_bool ?_, rfl⟩
    simp [M.St.isName, HK.out]
  · have hd : (S.now.k == 0) = false := by simpa using hk0
    go_enter Tryz.func118, Tryz.ntmps118
    go_wp2_with (go_at_call 131; refine (keyword_any _ _).mono ?_; rintro e w' ⟨rfl, rfl⟩)
    go_ret
    refine ⟨ret_bool ?_, rfl⟩
    simp [M.St.isName, hk0]

theorem firstSet {w : World} {r : Nat} {T : TypeId} {v0 v1 v2 v3 v4 v5 v6 : Value} (h : w.heap[r]? = some (.cells #[v0, v1, v2, v3, v4, v5, v6] T (0, 0))) (a : Value) :
    (w.setCell ⟨r, 0, none⟩ a).heap[r]? = some (.cells #[a, v1, v2, v3, v4, v5, v6] T (0, 0)) := by
  rw [heap_setCell_same _ _ _ _ _ _ h]; rfl

theorem now_small (S : M.St) : S.now.t.size ≤ 65536 := by
  obtain ⟨rest, fin, n, d⟩ := S
  unfold M.St.now
  cases rest with
  | nil => show (0 : Nat) ≤ _; omega
  | cons x l =>
    cases hm : M.may1 x
    · simp only [nowNo _ _ _ hm]; show (0 : Nat) ≤ _; omega
    · simp only [nowYes _ _ _ hm]
      unfold M.may1 at hm
      split at hm
      · simp only [M.wordB, Bool.and_eq_true, decide_eq_true_eq] at hm
        have := hm.1; rw [len_list] at this; exact this
      · split at hm
        · simp only [M.numB, Bool.and_eq_true, decide_eq_true_eq] at hm
          have := hm.2.1; rw [len_list] at this; omega
        · split at hm
          · simp only [Bool.and_eq_true, beq_iff_eq] at hm
            have := hm.1; omega
          · cases hm

set_option maxHeartbeats 400000 in
theorem pass_any (r : Nat) (S : M.St) (w : World) (h : Rd w r S) (h0 : S.rest ≠ []) :
    Calls Tryz.prog 119 #[.pointer (some ⟨r, 0, none⟩)] w fun e w' => e = .returned (.string S.now.t) ∧ Rd w' r S.adv ∧ Only r w w' := by
  have hsm := now_small S
  obtain ⟨⟨v, hh, hTC⟩, hfew, hlim⟩ := h
  obtain ⟨hv, hfin, hk, ht, hp, hn, hd, hfree, hlt⟩ := cells7 hh
  obtain ⟨rest, fin, n, d⟩ := S
  simp only at h0 hTC hfew
  cases rest with
  | nil => exact absurd rfl h0
  | cons x l =>
    obtain ⟨⟨hl1, hl2, a, cap, rfl, hT⟩, hap, hcap⟩ := hTC
    rcases hT with hT | ⟨b, o, rfl, hbl, hc⟩
    · cases hT
    have hlr := hap b o _ _ rfl
    have hne : b ≠ r := Nat.ne_of_lt hlr
    obtain ⟨hcp, hcm⟩ := hcap _ _ _ rfl
    unfold maxLen at hcm
    simp only [List.length_cons] at hcp hl1 hfew hh hv
    have hcp1 : l.length + 1 ≤ cap := hcp
    go_enter Tryz.func119, Tryz.ntmps119
    go_wp2_with fail
    refine (clone_any _ _ (by omega)).mono ?_
    rintro e w1 ⟨rfl, hb1⟩
    have hO1 : Only r w w1 := Only.of_below hb1
    have hH1 := (hb1.block r hlt).trans hh
    clear hv hfin hk ht hp hn hd hfree
    obtain ⟨gv, gfin, gk, gt, gp, gn, gd, gfree, glt⟩ := cells7 hH1
    have hT1 : ∀ (u : Value), u = .slice (if cap = 1 then some ⟨b, o, none⟩ else some ⟨b, o + 3, none⟩) l.length (cap - 1) → ∀ W, Only r w W → TokC W r u l := by
      intro u hu W hW
      subst hu
      refine ⟨⟨by omega, fun y hy => hl2 y (List.mem_cons_of_mem _ hy), _, _, rfl, ?_⟩, ?_, ?_⟩
      · by_cases hc1 : cap = 1
        · exact .inl (List.length_eq_zero_iff.1 (by omega))
        · rw [if_neg hc1]
          refine .inr ⟨b, o + 3, rfl, Nat.lt_of_lt_of_le hbl hW.size, fun i hi => ?_⟩
          obtain ⟨c1, c2, c3⟩ := hc (i + 1) (by simpa using hi)
          rw [show o + (i + 1) * 3 = o + 3 + i * 3 by omega] at c1 c2 c3
          refine ⟨?_, ?_, ?_⟩
          · rw [hW.cell (p := ⟨b, _, none⟩) hbl hne]; simpa using c1
          · rw [hW.cell (p := ⟨b, _, none⟩) hbl hne]; simpa using c2
          · rw [hW.cell (p := ⟨b, _, none⟩) hbl hne]; simpa using c3
      · intro b' o' n' c' he
        split at he <;> (simp at he; omega)
      · intro a' n' c' he
        simp at he
        unfold maxLen; omega
    have hend : ∀ (u : Value), u = .slice (if cap = 1 then some ⟨b, o, none⟩ else some ⟨b, o + 3, none⟩) l.length (cap - 1) → Calls Tryz.prog 95 #[.pointer (some ⟨r, 0, none⟩)] (w1.setCell ⟨r, 0, none⟩ u) fun e w' => e = .returned (.tuple #[]) ∧ Rd w' r ⟨l, fin, n, d⟩ ∧ Only r w w' := by
      intro u hu
      have hO2 : Only r w (w1.setCell ⟨r, 0, none⟩ u) := hO1.setCell (.inl rfl) _
      refine (look_any r ⟨l, fin, n, d⟩ _ ⟨⟨_, _, _, _, firstSet hH1 _, hT1 u hu _ hO2⟩, ?_, hlim⟩).mono ?_
      · show l.length ≤ _; omega
      · rintro e w2 ⟨rfl, h2, h3⟩
        exact ⟨rfl, h2, hO2.trans h3⟩
    by_cases hc1 : cap = 1
    · have HE := hend (.slice (some ⟨b, o, none⟩) 0 0) (by simp [hc1]; omega)
      subst hc1
      clear hend hT1
      go_wp2_with fail
      refine HE.mono ?_
      rintro e w2 ⟨rfl, h2, h3⟩
      go_wp2_with fail
      go_ret
      exact ⟨rfl, h2, h3⟩
    · have HE := hend (.slice (some ⟨b, o + 3, none⟩) l.length (cap - 1)) (by simp [hc1])
      clear hend hT1
      go_wp2_with fail
      refine HE.mono ?_
      rintro e w2 ⟨rfl, h2, h3⟩
      go_wp2_with fail
      go_ret
      exact ⟨rfl, h2, h3⟩

theorem at_rest (S : M.St) (t : ByteArray) (h : S.at t = true) (ht : t.size ≠ 0) : S.rest ≠ [] := by
  intro h0
  obtain ⟨rest, fin, n, d⟩ := S
  simp only at h0
  subst h0
  simp only [M.St.at, M.St.now, nowNil] at h
  rw [← of_decide_eq_true h] at ht
  exact ht rfl
theorem name_rest (S : M.St) (h : S.isName = true) : S.rest ≠ [] := by
  intro h0
  obtain ⟨rest, fin, n, d⟩ := S
  simp only at h0
  subst h0
  simp only [M.St.isName, M.St.now, nowNil, Bool.and_eq_true] at h
  have := of_decide_eq_true h.1
  omega

theorem passIf_no (r : Nat) (S : M.St) (t : ByteArray) (w : World) (h : Rd w r S) (ht : S.at t = false) :
    Calls Tryz.prog 117 #[.pointer (some ⟨r, 0, none⟩), .string t] w fun e w' => e = .returned (.bool false) ∧ w' = w := by
  have hat := at_any r S t w h
  rw [ht] at hat
  go_enter Tryz.func117, Tryz.ntmps117
  go_wp2_with fail
  refine hat.mono ?_
  rintro e w' ⟨rfl, rfl⟩
  go_wp2_with fail
  go_ret
  exact ⟨rfl, rfl⟩
theorem passIf_yes (r : Nat) (S : M.St) (t : ByteArray) (w : World) (h : Rd w r S) (ht : S.at t = true) (h0 : t.size ≠ 0) :
    Calls Tryz.prog 117 #[.pointer (some ⟨r, 0, none⟩), .string t] w fun e w' => e = .returned (.bool true) ∧ Rd w' r S.adv ∧ Only r w w' := by
  have hat := at_any r S t w h
  have hr := at_rest S t ht h0
  rw [ht] at hat
  go_enter Tryz.func117, Tryz.ntmps117
  go_wp2_with fail
  refine hat.mono ?_
  rintro e w' ⟨rfl, rfl⟩
  go_wp2_with fail
  refine (pass_any r S _ h hr).mono ?_
  rintro e w2 ⟨rfl, h2, h3⟩
  go_wp2_with fail
  go_ret
  exact ⟨rfl, h2, h3⟩

def noEnc : Unit → Value → World → Prop := fun _ v _ => v = .tuple #[]
def strEnc : ByteArray → Value → World → Prop := fun s v _ => v = .string s

theorem take_any (r : Nat) (S : M.St) (t : ByteArray) (w : World) (h : Rd w r S) (h0 : t.size ≠ 0) :
    Calls Tryz.prog 104 #[.pointer (some ⟨r, 0, none⟩), .string t] w (Ends r w noEnc (M.take S t)) := by
  cases ht : S.at t
  · go_enter Tryz.func104, Tryz.ntmps104
    go_wp2_with fail
    refine (passIf_no r S t _ h ht).mono ?_
    rintro e w' ⟨rfl, rfl⟩
    go_wp2_with fail
    refine (must_no r S _ h).mono ?_
    rintro e w' ⟨rfl, rfl⟩
    refine ⟨rfl, Only.refl _ _, ?_, ?_⟩
    · intro S1 a hr; simp [M.take, ht, M.fail] at hr
    · intro f hr; simp [M.take, ht, M.fail] at hr; rw [← hr]
  · go_enter Tryz.func104, Tryz.ntmps104
    go_wp2_with fail
    refine (passIf_yes r S t _ h ht h0).mono ?_
    rintro e w1 ⟨rfl, h1, h2⟩
    go_wp2_with fail
    refine (must_yes r _).mono ?_
    rintro e w' ⟨rfl, rfl⟩
    go_wp2_with fail
    go_end0
    refine ⟨h2, ?_, ?_⟩
    · intro S1 a hr; simp [M.take, ht] at hr; obtain ⟨rfl⟩ := hr; exact ⟨_, rfl, h1, rfl⟩
    · intro f hr; simp [M.take, ht] at hr

theorem name_any (r : Nat) (S : M.St) (w : World) (h : Rd w r S) :
    Calls Tryz.prog 105 #[.pointer (some ⟨r, 0, none⟩)] w (Ends r w strEnc (M.name S)) := by
  have hn := atName_any r S w h
  cases ht : S.isName
  · rw [ht] at hn
    go_enter Tryz.func105, Tryz.ntmps105
    go_wp2_with fail
    refine hn.mono ?_
    rintro e w' ⟨rfl, rfl⟩
    go_wp2_with fail
    refine (must_no r S _ h).mono ?_
    rintro e w' ⟨rfl, rfl⟩
    refine ⟨rfl, Only.refl _ _, ?_, ?_⟩
    · intro S1 a hr; simp [M.name, ht, M.fail] at hr
    · intro f hr; simp [M.name, ht, M.fail] at hr; rw [← hr]
  · rw [ht] at hn
    go_enter Tryz.func105, Tryz.ntmps105
    go_wp2_with fail
    refine hn.mono ?_
    rintro e w' ⟨rfl, rfl⟩
    go_wp2_with fail
    refine (must_yes r _).mono ?_
    rintro e w' ⟨rfl, rfl⟩
    go_wp2_with fail
    refine (pass_any r S _ h (name_rest S ht)).mono ?_
    rintro e w2 ⟨rfl, h2, h3⟩
    go_wp2_with fail
    go_ret
    refine ⟨h3, ?_, ?_⟩
    · intro S1 a hr; simp [M.name, ht] at hr; obtain ⟨rfl, rfl⟩ := hr; exact ⟨_, rfl, h2, rfl⟩
    · intro f hr; simp [M.name, ht] at hr
end Go.Proofs.YtkpmpnebmkeocaaGreatDoor
end
section
namespace Go.Proofs.YtkpmpnebmkeocaaGreatDoor
open Go.RowKit

theorem dig_val (c : UInt8) (h : M.pDig c = true) : Lib.digitVal c = some (c.toNat - 48) ∧ 48 ≤ c.toNat ∧ c.toNat ≤ 57 := by
  have h1 : M.cls c.toNat = 4 := of_decide_eq_true h
  have h2 : 48 ≤ (c.toNat : Int) ∧ (c.toNat : Int) ≤ 57 := by
    unfold M.cls at h1
    split at h1
    · cases h1
    · split at h1
      · cases h1
      · split at h1
        · cases h1
        · split at h1
          · assumption
          · split at h1
            · cases h1
            · split at h1 <;> cases h1
  have h3 : 48 ≤ c.toNat ∧ c.toNat ≤ 57 := by omega
  refine ⟨?_, h3⟩
  unfold Lib.digitVal
  simp
  omega

theorem dec_num : ∀ (l : List UInt8) (acc : Nat), l.all M.pDig = true → ∃ m : Nat, Lib.decFrom acc l = some m ∧ (m : Int) = l.foldl (fun n c => 10 * n + ((c.toNat : Int) - 48)) (acc : Int)
  | [], acc, _ => ⟨acc, rfl, rfl⟩
  | c :: r, acc, h => by
    simp only [List.all_cons, Bool.and_eq_true] at h
    obtain ⟨h1, h2, h3⟩ := dig_val c h.1
    obtain ⟨m, hm, he⟩ := dec_num r (acc * 10 + (c.toNat - 48)) h.2
    refine ⟨m, ?_, ?_⟩
    · simp only [Lib.decFrom, h1]; exact hm
    · rw [he, List.foldl_cons]; congr 1; omega

theorem all_takeWhile (p : UInt8 → Bool) : ∀ l : List UInt8, (l.takeWhile p).all p = true
  | [] => rfl
  | c :: r => by
    cases h : p c
    · rw [List.takeWhile_cons_of_neg (by simp [h])]; rfl
    · rw [List.takeWhile_cons_of_pos h, List.all_cons, h, all_takeWhile p r]; rfl
theorem all_of_ext (p : UInt8 → Bool) (l : List UInt8) (h : M.ext p l 0 = l.length) : l.all p = true := by
  simp only [M.ext, List.drop_zero, Nat.zero_add] at h
  have e : l.takeWhile p = l := (List.takeWhile_sublist (p := p) (l := l)).eq_of_length h
  rw [← e]; exact all_takeWhile p l

theorem atoi_num (l : List UInt8) (h : M.numB l = true) : Lib.atoi l = some (M.numV l) := by
  simp only [M.numB, Bool.and_eq_true, Bool.not_eq_true', beq_iff_eq, decide_eq_true_eq] at h
  have hall := all_of_ext _ _ h.2.2
  cases l with
  | nil => simp at h
  | cons c r =>
    have hc := hall
    simp only [List.all_cons, Bool.and_eq_true] at hc
    obtain ⟨h1, h2, h3⟩ := dig_val c hc.1
    obtain ⟨m, hm, he⟩ := dec_num (c :: r) 0 hall
    have n1 : (c == 45) = false := by rw [beq_eq_false_iff_ne]; intro e; rw [e] at h2; exact absurd h2 (by decide)
    have n2 : (c == 43) = false := by rw [beq_eq_false_iff_ne]; intro e; rw [e] at h2; exact absurd h2 (by decide)
    simp only [Lib.atoi, n1, n2, Lib.decNat, List.isEmpty_cons, hm]
    simp [M.numV, he]

theorem now_num (S : M.St) (h : S.now.k = 1) : M.numB S.now.t.data.toList = true ∧ S.rest ≠ [] := by
  obtain ⟨rest, fin, n, d⟩ := S
  unfold M.St.now at h ⊢
  cases rest with
  | nil => rw [nowNil] at h; simp at h
  | cons x l =>
    cases hm : M.may1 x
    · rw [nowNo _ _ _ hm] at h; simp at h
    · rw [nowYes _ _ _ hm] at h ⊢
      unfold M.may1 at hm
      rw [if_neg (by omega), if_pos h] at hm
      exact ⟨hm, by simp⟩

theorem below_bytesW (w : World) (t : ByteArray) : Below w.heap.size w (Lib.bytesWorld w 5 t) :=
  ⟨rfl, rfl, rfl, by rw [Lib.bytesWorld_size]; omega, fun k hk => Lib.bytesWorld_at_old _ _ _ _ hk⟩

theorem kept3 {w w1 : World} {r : Nat} {T : TypeId} {v0 v1 v2 : Value} (h : Only r (w.alloc (.cells #[v0, v1, v2] T)) w1) (hr : r < w.heap.size) :
    w1.cell? ⟨w.heap.size, 0, none⟩ = some v0 ∧ w1.cell? ⟨w.heap.size, 1, none⟩ = some v1 ∧ w1.cell? ⟨w.heap.size, 2, none⟩ = some v2 ∧ (∀ i, w1.frozen? ⟨w.heap.size, i, none⟩ = false) ∧ w.heap.size < w1.heap.size := by
  have hh := (h.block w.heap.size (by simp) (by omega)).trans (heap_alloc_new w (.cells #[v0, v1, v2] T))
  refine ⟨?_, ?_, ?_, fun i => Lib.frozen_of_heap hh i, (Array.getElem?_eq_some_iff.1 hh).1⟩
  all_goals (rw [Lib.cell_of_heap hh]; rfl)

def opEnc : M.Opd → Value → World → Prop := fun o v _ => v = .agg #[.int .i64 o.k, .int .i64 o.n, .string o.s]

theorem set3 {W : World} {g : Nat} {a b c : Value} (k0 : ∃ v, W.cell? ⟨g, 0, none⟩ = some v) (k1 : ∃ v, W.cell? ⟨g, 1, none⟩ = some v) (k2 : ∃ v, W.cell? ⟨g, 2, none⟩ = some v) :
    (((W.setCell ⟨g, 0, none⟩ a).setCell ⟨g, 1, none⟩ b).setCell ⟨g, 2, none⟩ c).cell? ⟨g, 0, none⟩ = some a ∧ (((W.setCell ⟨g, 0, none⟩ a).setCell ⟨g, 1, none⟩ b).setCell ⟨g, 2, none⟩ c).cell? ⟨g, 1, none⟩ = some b ∧ (((W.setCell ⟨g, 0, none⟩ a).setCell ⟨g, 1, none⟩ b).setCell ⟨g, 2, none⟩ c).cell? ⟨g, 2, none⟩ = some c := by
  obtain ⟨x, k0⟩ := k0
  obtain ⟨y, k1⟩ := k1
  obtain ⟨z, k2⟩ := k2
  refine ⟨?_, ?_, ?_⟩
  all_goals simp [go_sem, k0, k1, k2]

theorem op_ret {r : Nat} {w W : World} {S S' : M.St} {o : M.Opd} {tm : Array Value} (hres : M.operand S = .ok (S', o)) (hr : r < w.heap.size) (hO : Only r w W) (hR : Rd W r S')
    (ht : tm.getD 2 undef = .pointer (some ⟨w.heap.size, 0, none⟩))
    (k0 : ∃ v, W.cell? ⟨w.heap.size, 0, none⟩ = some v) (k1 : ∃ v, W.cell? ⟨w.heap.size, 1, none⟩ = some v) (k2 : ∃ v, W.cell? ⟨w.heap.size, 2, none⟩ = some v) :
    bodyPost Tryz.prog Tryz.f138 (Ends r w opEnc (M.operand S)) Exit.ret { tmps := tm, defers := [] } (((W.setCell ⟨w.heap.size, 0, none⟩ (.int .i64 o.k)).setCell ⟨w.heap.size, 1, none⟩ (.int .i64 o.n)).setCell ⟨w.heap.size, 2, none⟩ (.string o.s)) := by
  obtain ⟨c0, c1, c2⟩ := set3 (a := .int .i64 o.k) (b := .int .i64 o.n) (c := .string o.s) k0 k1 k2
  refine bodyPost_ret (v := .agg #[.int .i64 o.k, .int .i64 o.n, .string o.s]) ?_ rfl ⟨((hO.setCell (.inr (Nat.le_refl _)) _).setCell (.inr (Nat.le_refl _)) _).setCell (.inr (Nat.le_refl _)) _, ?_, ?_⟩
  · generalize (((W.setCell ⟨w.heap.size, 0, none⟩ (.int .i64 o.k)).setCell ⟨w.heap.size, 1, none⟩ (.int .i64 o.n)).setCell ⟨w.heap.size, 2, none⟩ (.string o.s)) = X at c0 c1 c2 ⊢
    simp only [Array.getD_eq_getD_getElem?] at ht
    simp [results, Tryz.results138, go_sem, ht, c0, c1, c2]
  · intro S1 a hr'
    rw [hres] at hr'
    simp only [Except.ok.injEq, Prod.mk.injEq] at hr'
    obtain ⟨rfl, rfl⟩ := hr'
    exact ⟨_, rfl, ((hR.setCell hr _).setCell hr _).setCell hr _, rfl⟩
  · intro f hr'; rw [hres] at hr'; cases hr'

theorem only_new {r : Nat} {w w1 : World} {o : Obj} (h : Only r (w.alloc o) w1) : Only r w w1 := ((Only.refl r w).alloc o).trans h
set_option maxHeartbeats 800000 in
theorem operand_any (r : Nat) (S : M.St) (w : World) (h : Rd w r S) :
    Calls Tryz.prog 138 #[.pointer (some ⟨r, 0, none⟩)] w (Ends r w opEnc (M.operand S)) := by
  have hlt := h.lt
  have ha := h.alloc (.cells #[.int .i64 0, .int .i64 0, .string ⟨#[]⟩] 47)
  have e1 : (⟨#[110, 117, 108, 108]⟩ : ByteArray) = M.kNull := rfl
  cases h1 : S.at M.kNull
  · cases h2 : S.at M.kTrue
    · cases h3 : S.at M.kFalse
      · cases h4 : S.at (M.ch 38)
        · by_cases h5 : S.now.k = 1
          · have HR : Hid (M.operand S = .ok (S.adv, ⟨2, M.numV S.now.t.data.toList, M.em⟩)) := by unfold Hid; simp [M.operand, h1, h2, h3, h4, h5]
            obtain ⟨hnum, hne⟩ := now_num S h5
            have hat := atoi_num _ hnum
            have hsz : S.now.t.size ≤ 18 := by
              simp only [M.numB, Bool.and_eq_true, decide_eq_true_eq] at hnum
              have := hnum.2.1; rw [len_list] at this; omega
            obtain ⟨⟨v, hh, ht⟩, _, _⟩ := id ha
            obtain ⟨hv, hfin, hk, ht, hp, hn, hd, hfree, hlt'⟩ := cells7 hh
            rw [h5] at hk
            go_enter Tryz.func138, Tryz.ntmps138
            go_wp2_with fail
            refine (passIf_no r S M.kNull _ ha h1).mono ?_
            rintro e w' ⟨rfl, rfl⟩
            go_wp2_with fail
            refine (passIf_no r S M.kTrue _ ha h2).mono ?_
            rintro e w' ⟨rfl, rfl⟩
            go_wp2_with fail
            refine (passIf_no r S M.kFalse _ ha h3).mono ?_
            rintro e w' ⟨rfl, rfl⟩
            go_wp2_with fail
            refine (passIf_no r S (M.ch 38) _ ha h4).mono ?_
            rintro e w' ⟨rfl, rfl⟩
            go_wp2_with fail
            refine (pass_any r S _ ha hne).mono ?_
            rintro e w1 ⟨rfl, r1, o1⟩
            go_wp2_with fail
            refine (Tryz.strconv_Atoi _ _ hsz hat _).mono ?_
            rintro e w2 ⟨rfl, tt, rfl⟩
            have hb2 := below_bytesW w1 tt
            have o2 := o1.below hb2
            obtain ⟨k0, k1, k2, kf, kz⟩ := kept3 o2 hlt
            generalize hW2 : Lib.bytesWorld w1 5 tt = W2 at hb2 o2 k0 k1 k2 kf kz ⊢
            clear hv hfin hk ht hp hn hd hfree
            go_wp2_with fail
            exact op_ret (o := ⟨2, M.numV S.now.t.data.toList, M.em⟩) HR.out hlt (only_new o2) (r1.below hb2) rfl ⟨_, k0⟩ ⟨_, k1⟩ ⟨_, k2⟩
          · have HR : Hid (M.operand S = M.bnd (M.name S) fun S1 n => .ok (S1, ⟨4, 0, n⟩)) := by unfold Hid; simp [M.operand, h1, h2, h3, h4, h5]
            obtain ⟨⟨v, hh, ht⟩, _, _⟩ := id ha
            obtain ⟨hv, hfin, hk, ht, hp, hn, hd, hfree, hlt'⟩ := cells7 hh
            have hkd : (S.now.k == 1) = false := by simpa using h5
            go_enter Tryz.func138, Tryz.ntmps138
            go_wp2_with fail
            refine (passIf_no r S M.kNull _ ha h1).mono ?_
            rintro e w' ⟨rfl, rfl⟩
            go_wp2_with fail
            refine (passIf_no r S M.kTrue _ ha h2).mono ?_
            rintro e w' ⟨rfl, rfl⟩
            go_wp2_with fail
            refine (passIf_no r S M.kFalse _ ha h3).mono ?_
            rintro e w' ⟨rfl, rfl⟩
            go_wp2_with fail
            refine (passIf_no r S (M.ch 38) _ ha h4).mono ?_
            rintro e w' ⟨rfl, rfl⟩
            go_wp2_with fail
            refine (name_any r S _ ha).mono ?_
            rintro e w3 ⟨o3, hok, herr⟩
            cases hnm : M.name S with
            | error f =>
              obtain rfl := herr f hnm
              refine ⟨rfl, only_new o3, ?_, ?_⟩
              · intro S1 a hr'; rw [HR.out, hnm] at hr'; cases hr'
              · intro f' hr'; rw [HR.out, hnm] at hr'; cases hr'; rfl
            | ok p =>
              obtain ⟨S1, nm⟩ := p
              obtain ⟨v3, rfl, r3, hv3⟩ := hok S1 nm hnm
              obtain rfl : v3 = .string nm := hv3
              obtain ⟨k0, k1, k2, kf, kz⟩ := kept3 (o3) hlt
              go_wp2_with fail
              exact op_ret (S' := S1) (o := ⟨4, 0, nm⟩) (by rw [HR.out, hnm]; rfl) hlt (only_new (o3)) r3 rfl ⟨_, k0⟩ ⟨_, k1⟩ ⟨_, k2⟩
        · have HR : Hid (M.operand S = M.bnd (M.name S.adv) fun S1 n => .ok (S1, ⟨3, 0, n⟩)) := by unfold Hid; simp [M.operand, h1, h2, h3, h4]
          go_enter Tryz.func138, Tryz.ntmps138
          go_wp2_with fail
          refine (passIf_no r S M.kNull _ ha h1).mono ?_
          rintro e w' ⟨rfl, rfl⟩
          go_wp2_with fail
          refine (passIf_no r S M.kTrue _ ha h2).mono ?_
          rintro e w' ⟨rfl, rfl⟩
          go_wp2_with fail
          refine (passIf_no r S M.kFalse _ ha h3).mono ?_
          rintro e w' ⟨rfl, rfl⟩
          go_wp2_with fail
          refine (passIf_yes r S (M.ch 38) _ ha h4 (by decide)).mono ?_
          rintro e w1 ⟨rfl, r1, o1⟩
          go_wp2_with fail
          refine (name_any r S.adv _ r1).mono ?_
          rintro e w3 ⟨o3, hok, herr⟩
          cases hnm : M.name S.adv with
          | error f =>
            obtain rfl := herr f hnm
            refine ⟨rfl, only_new (o1.trans o3), ?_, ?_⟩
            · intro S1 a hr'; rw [HR.out, hnm] at hr'; cases hr'
            · intro f' hr'; rw [HR.out, hnm] at hr'; cases hr'; rfl
          | ok p =>
            obtain ⟨S1, nm⟩ := p
            obtain ⟨v3, rfl, r3, hv3⟩ := hok S1 nm hnm
            obtain rfl : v3 = .string nm := hv3
            obtain ⟨k0, k1, k2, kf, kz⟩ := kept3 ((o1.trans o3)) hlt
            go_wp2_with fail
            exact op_ret (S' := S1) (o := ⟨3, 0, nm⟩) (by rw [HR.out, hnm]; rfl) hlt (only_new ((o1.trans o3))) r3 rfl ⟨_, k0⟩ ⟨_, k1⟩ ⟨_, k2⟩
      · have HR : Hid (M.operand S = .ok (S.adv, ⟨1, 0, M.em⟩)) := by unfold Hid; simp [M.operand, h1, h2, h3]
        go_enter Tryz.func138, Tryz.ntmps138
        go_wp2_with fail
        refine (passIf_no r S M.kNull _ ha h1).mono ?_
        rintro e w' ⟨rfl, rfl⟩
        go_wp2_with fail
        refine (passIf_no r S M.kTrue _ ha h2).mono ?_
        rintro e w' ⟨rfl, rfl⟩
        go_wp2_with fail
        refine (passIf_yes r S M.kFalse _ ha h3 (by decide)).mono ?_
        rintro e w1 ⟨rfl, r1, o1⟩
        obtain ⟨k0, k1, k2, kf, kz⟩ := kept3 o1 hlt
        go_wp2_with fail
        exact op_ret (o := ⟨1, 0, M.em⟩) HR.out hlt (only_new o1) r1 rfl ⟨_, k0⟩ ⟨_, k1⟩ ⟨_, k2⟩
    · have HR : Hid (M.operand S = .ok (S.adv, ⟨1, 1, M.em⟩)) := by unfold Hid; simp [M.operand, h1, h2]
      go_enter Tryz.func138, Tryz.ntmps138
      go_wp2_with fail
      refine (passIf_no r S M.kNull _ ha h1).mono ?_
      rintro e w' ⟨rfl, rfl⟩
      go_wp2_with fail
      refine (passIf_yes r S M.kTrue _ ha h2 (by decide)).mono ?_
      rintro e w1 ⟨rfl, r1, o1⟩
      obtain ⟨k0, k1, k2, kf, kz⟩ := kept3 o1 hlt
      go_wp2_with fail
      exact op_ret (o := ⟨1, 1, M.em⟩) HR.out hlt (only_new o1) r1 rfl ⟨_, k0⟩ ⟨_, k1⟩ ⟨_, k2⟩
  · have HR : Hid (M.operand S = .ok (S.adv, ⟨0, 0, M.em⟩)) := by unfold Hid; simp [M.operand, h1]
    go_enter Tryz.func138, Tryz.ntmps138
    go_wp2_with fail
    refine (passIf_yes r S M.kNull _ ha h1 (by decide)).mono ?_
    rintro e w1 ⟨rfl, r1, o1⟩
    obtain ⟨k0, k1, k2, kf, kz⟩ := kept3 o1 hlt
    go_wp2_with fail
    exact op_ret (o := ⟨0, 0, M.em⟩) HR.out hlt (only_new o1) r1 rfl ⟨_, k0⟩ ⟨_, k1⟩ ⟨_, k2⟩
theorem slAt_new (w : World) (X : Nat → Prop) (T : TypeId) (n cap : Nat) (cs : List Value) (arr : Array Value) (hr : ¬ X w.heap.size) (hn : n ≤ 4398046511104) (ha : arr = cs.toArray) (hcp : n ≤ cap ∧ cap ≤ maxLen := by simp [maxLen]) :
    SlAt (w.alloc (.cells arr T)) X (.slice (some ⟨w.heap.size, 0, none⟩) n cap) n cs := by
  subst ha
  have hh := heap_alloc_new w (.cells cs.toArray T)
  refine ⟨hn, some ⟨w.heap.size, 0, none⟩, cap, rfl, .inr ⟨w.heap.size, 0, rfl, by simp, ⟨hr, hcp⟩, fun i u hu => ?_⟩⟩
  rw [Lib.cell_of_heap hh]; simpa using hu

def opsEnc (w0 : World) : List M.Opd → Value → World → Prop := fun l v w => OpsAt w (Old w0) v l

theorem oneOperand_any (r : Nat) (S : M.St) (w : World) (h : Rd w r S) :
    Calls Tryz.prog 134 #[.pointer (some ⟨r, 0, none⟩)] w (Ends r w (opsEnc w) (M.oneOperand S)) := by
  have hlt := h.lt
  go_enter Tryz.func134, Tryz.ntmps134
  go_wp2_with fail
  refine (operand_any r S _ h).mono ?_
  rintro e w3 ⟨o3, hok, herr⟩
  cases hnm : M.operand S with
  | error f =>
    obtain rfl := herr f hnm
    refine ⟨rfl, o3, ?_, ?_⟩
    · intro S1 a hr'; rw [M.oneOperand, hnm] at hr'; cases hr'
    · intro f' hr'; rw [M.oneOperand, hnm] at hr'; cases hr'; rfl
  | ok p =>
    obtain ⟨S1, o⟩ := p
    obtain ⟨v3, rfl, r3, hv3⟩ := hok S1 o hnm
    obtain rfl : v3 = .agg #[.int .i64 o.k, .int .i64 o.n, .string o.s] := hv3
    go_wp2_with fail
    go_ret
    refine ⟨o3.alloc _, ?_, ?_⟩
    · intro S2 a hr'
      rw [M.oneOperand, hnm] at hr'
      simp only [M.bnd, Except.ok.injEq, Prod.mk.injEq] at hr'
      obtain ⟨rfl, rfl⟩ := hr'
      exact ⟨_, rfl, r3.alloc _, slAt_new w3 _ _ 1 1 [.int .i64 o.k, .int .i64 o.n, .string o.s] _ (Nat.not_lt.2 o3.size) (by omega) rfl⟩
    · intro f' hr'; rw [M.oneOperand, hnm] at hr'; cases hr'
end Go.Proofs.YtkpmpnebmkeocaaGreatDoor
end
section
namespace Go.Proofs.YtkpmpnebmkeocaaGreatDoor
open Go.RowKit

theorem Rd.drew {w : World} {r : Nat} {S : M.St} (h : Rd w r S) : Rd w.drew r S := h.above (Nat.le_refl _) fun _ _ => rfl
theorem ownsRow_only {w w2 : World} {r b : Nat} {e : TypeId} {z : Nat} {v : Value} {n : Nat} {xs : List Value} (h : w.ownsRow b e z v n xs) (ho : Only r w w2) (hr : r < b) : w2.ownsRow b e z v n xs := by
  refine ⟨h.1, ?_⟩
  rcases h.2 with h | ⟨g, cap, cur, hv, hg, hh, k⟩
  · exact .inl h
  · refine .inr ⟨g, cap, cur, hv, hg, ?_, k⟩
    rw [ho.block g (Array.getElem?_eq_some_iff.1 hh).1 (by omega)]; exact hh

theorem grow_step {r L base c n size : Nat} {w0 w1 w2 : World} {obj : Obj} {v : Value} {arr : Array Value} {TL e : TypeId} {xs : List Value}
    (o1 : Only r w0 w1) (hr : r < w0.heap.size) (L0 : w0.heap.size ≤ L) (L1 : L < base) (bL1 : w1.heap[L]? = some (.cells arr TL (0, 0)))
    (own1 : w1.ownsRow base e size v n xs) (hgrow : (w1.alloc obj).grownBy w2 v.ownBlock) (hbase : base ≤ w1.heap.size) (v' : Value) :
    Only r w0 (w2.setCell ⟨L, c, none⟩ v') ∧ (∀ S, Rd w1 r S → Rd (w2.setCell ⟨L, c, none⟩ v') r S) ∧ (w2.setCell ⟨L, c, none⟩ v').heap[L]? = some (.cells (arr.setIfInBounds c v') TL (0, 0)) ∧
      (∀ k, k < w1.heap.size → k ≠ L → v.ownBlock ≠ some k → (w2.setCell ⟨L, c, none⟩ v').heap[k]? = w1.heap[k]?) ∧ (w1.heap.size ≤ (w2.setCell ⟨L, c, none⟩ v').heap.size) ∧
      (∀ {b : Nat} {e' : TypeId} {z : Nat} {u : Value} {m : Nat} {ys : List Value}, w2.ownsRow b e' z u m ys → L < b → (w2.setCell ⟨L, c, none⟩ v').ownsRow b e' z u m ys) := by
  have hz : w1.heap.size + 1 ≤ w2.heap.size := by have := hgrow.size; rw [World.size_alloc] at this; exact this
  have hown : ∀ k, v.ownBlock = some k → base ≤ k := fun k hk => (own1.lt k hk).1
  have hblk : ∀ k, k < w1.heap.size → v.ownBlock ≠ some k → w2.heap[k]? = w1.heap[k]? := fun k hk hne =>
    (hgrow.block k (by rw [World.size_alloc]; omega) (Ne.symm hne)).trans (Below.heap_alloc _ _ _ hk)
  refine ⟨?_, ?_, ?_, ?_, ?_, ?_⟩
  · exact ((o1.alloc obj).grown hgrow fun k hk => by have := hown k hk; omega).setCell (.inr L0) _
  · intro S h
    exact ((h.alloc obj).grown hgrow fun k hk => by have := hown k hk; omega).setCell (by show r < L; omega) _
  · have hL2 : w2.heap[L]? = some (.cells arr TL (0, 0)) := (hblk L (Array.getElem?_eq_some_iff.1 bL1).1 fun e => by have := hown L e; omega).trans bL1
    rw [heap_setCell_same _ _ _ _ _ _ hL2]
  · intro k hk hkL hkv
    rw [Below.heap_setCell _ _ _ _ (by exact hkL)]
    exact hblk k hk hkv
  · simp [World.setCell]; omega
  · intro b e' z u m ys h hb
    exact ownsRow_setCell_below h (by exact hb) _

structure OpsIn (r L R base : Nat) (w0 w : World) (S : M.St) (l : List M.Opd) : Prop where
  only : Only r w0 w
  hr : r < w0.heap.size
  R0 : R ≠ r
  R1 : R < base
  L0 : w0.heap.size ≤ L
  L1 : L < base
  ne : L ≠ R
  bs : base ≤ w.heap.size
  boxR : w.heap[R]? = some (.cells #[.pointer (some ⟨r, 0, none⟩)] 110 (0, 0))
  boxL : ∃ v, w.heap[L]? = some (.cells #[v] 28 (0, 0)) ∧ w.ownsRow base 47 3 v l.length (l.flatMap opCells)
  few : l.length + S.rest.length ≤ 4398046511104

theorem infoOpd : (Tryz.prog.info? 47).map (fun i => (i.zero, i.size, i.bytes)) = some (some (.agg #[.int .i64 0, .int .i64 0, .string ⟨#[]⟩]), 3, 32) := by kernel_rfl

set_option maxRecDepth 8000 in
set_option maxHeartbeats 800000 in
theorem opItem_any (r L R base : Nat) (w0 w : World) (S : M.St) (l : List M.Opd) (h : Rd w r S) (hi : OpsIn r L R base w0 w S l) :
    Calls Tryz.prog 146 #[.pointer (some ⟨L, 0, none⟩), .pointer (some ⟨R, 0, none⟩)] w fun e w' => Only r w0 w' ∧
      (∀ S' l', M.itemOp S l = .ok (S', l') → e = .returned (.tuple #[]) ∧ Rd w' r S' ∧ OpsIn r L R base w0 w' S' l') ∧ (∀ f, M.itemOp S l = .error f → e = .panicked (stopOf f)) := by
  obtain ⟨only, hr, R0, R1, L0, L1, ne, bs, boxR, ⟨v, boxL, own⟩, few⟩ := hi
  obtain ⟨i0, hi0, hz0, hz1, hz2⟩ := info_parts infoOpd
  have cR : w.cell? ⟨R, 0, none⟩ = some (.pointer (some ⟨r, 0, none⟩)) := by rw [Lib.cell_of_heap boxR]; rfl
  have cL : w.cell? ⟨L, 0, none⟩ = some v := by rw [Lib.cell_of_heap boxL]; rfl
  cases hres : M.operand S with
  | error f =>
    have hcall : Calls Tryz.prog 138 #[.pointer (some ⟨r, 0, none⟩)] w.drew fun e w' => e = .panicked (stopOf f) ∧ Only r w w' :=
      (operand_any r S _ h.drew).mono fun e w' ⟨o1, _, h2⟩ => ⟨h2 f hres, (Only.refl r w).drew.trans o1⟩
    go_enter Tryz.func146, Tryz.ntmps146
    go_wp2_with fail
    refine wp_region_held_drew (S := fun w' => w'.cell? ⟨L, 0, none⟩ = some v ∧ w'.cell? ⟨R, 0, none⟩ = some (.pointer (some ⟨r, 0, none⟩))) (by kernel_rfl) ⟨cL, cR⟩ (fun hHeld => ?_)
    refine wpAnyH_take (i := 0) (oi := _) (v := v) rfl (by kernel_rfl) (by kernel_rfl) (by kernel_rfl) (fun _ _ _ h => h) (Or.inl ⟨by rfl, ?_⟩) hHeld ?_
    · intro w hSw
      try dsimp only at hSw
      go_simp
    simp only [Act.put, List.setIfInBounds_toArray]
    refine wpAnyH_take (i := 1) (oi := _) (v := .pointer (some ⟨r, 0, none⟩)) rfl (by kernel_rfl) (by kernel_rfl) (by kernel_rfl) (fun _ _ _ h => h) (Or.inl ⟨by rfl, ?_⟩) hHeld ?_
    · intro w hSw
      try dsimp only at hSw
      go_simp
    simp only [Act.put]
    refine wpAnyH_ready (rs := [2]) (by kernel_rfl) (by simp) ?_
    refine AllReadyH.cons rfl (fun K hK => ?_) AllReadyH.nil
    go_simp
    refine hcall.mono ?_
    rintro e w1 ⟨rfl, o1⟩
    refine ⟨rfl, only.trans o1, ?_, ?_⟩
    · intro S' l' hr'; rw [M.itemOp, hres] at hr'; cases hr'
    · intro f' hr'; rw [M.itemOp, hres] at hr'; cases hr'; rfl
  | ok p =>
    obtain ⟨S1, o⟩ := p
    have hshort : S1.rest.length < S.rest.length := M.operand_short hres
    have hm63 : l.length + 1 ≤ maxLen := by unfold maxLen; omega
    have hmby : (l.length + 1) * 32 ≤ 140737488355328 := by omega
    have hLr : L ≠ r := by omega
    have hRr : R ≠ r := by omega
    have hlL : L < w.heap.size := by omega
    have hlR : R < w.heap.size := by omega
    have hcall : Calls Tryz.prog 138 #[.pointer (some ⟨r, 0, none⟩)] w.drew fun e w' => e = .returned (.agg #[.int .i64 o.k, .int .i64 o.n, .string o.s]) ∧ w'.cell? ⟨L, 0, none⟩ = some v ∧ w'.cell? ⟨R, 0, none⟩ = some (.pointer (some ⟨r, 0, none⟩)) ∧ Rd w' r S1 ∧ Only r w w' ∧ w'.ownsRow base 47 3 v l.length (l.flatMap opCells) ∧ w'.heap[L]? = some (.cells #[v] 28 (0, 0)) ∧ w'.heap[R]? = some (.cells #[.pointer (some ⟨r, 0, none⟩)] 110 (0, 0)) :=
      (operand_any r S _ h.drew).mono fun e w' ⟨o1, h1, _⟩ => by
        obtain ⟨v1, rfl, r1, hv1⟩ := h1 S1 o hres
        have o2 : Only r w w' := (Only.refl r w).drew.trans o1
        refine ⟨by rw [hv1], ?_, ?_, r1, o2, ownsRow_only own o2 (by omega), (o2.block L hlL hLr).trans boxL, (o2.block R hlR hRr).trans boxR⟩
        · rw [o2.cell (p := ⟨L, 0, none⟩) hlL hLr]; exact cL
        · rw [o2.cell (p := ⟨R, 0, none⟩) hlR hRr]; exact cR
    have hvL : v.ownBlock ≠ some L := fun e => by have := (own.lt L e).1; omega
    have hvR : v.ownBlock ≠ some R := fun e => by have := (own.lt R e).1; omega
    go_enter Tryz.func146, Tryz.ntmps146
    go_wp2_with fail
    go_region_law
      (first
        | (refine step_append_lies _ (by rfl) _ _ _ (by rfl) base 47 i0 _ 3 32 Tryz.underlying28 hi0 hz0 hz1 hz2 rfl (by omega) v l.length (l.flatMap opCells) (by rfl) (own1.alloc _)
            ⟨w1.heap.size, 0, none⟩ 1 1 [.int .i64 o.k, .int .i64 o.n, .string o.s] (by rfl) (by rfl) (World.news_of_block (cs := #[.int .i64 o.k, .int .i64 o.n, .string o.s]) (t := 47) (fr := (0, 0)) (heap_alloc_new w1 _)) (by simp [Value.oneCell'])
            Nat.one_pos hm63 hmby (by simp; omega) (w1.heap.size + 1) (by simp) ?_; intro gg cap' w2 hown2 hgrow hat hlt2; have bL2 := (hgrow.block L (by rw [World.size_alloc]; omega) (Ne.symm hvL)).trans ((Below.heap_alloc _ _ _ (by omega)).trans bL1); have hfz2 := Lib.frozen_of_heap bL2 0; have cL2 : w2.cell? ⟨L, 0, none⟩ = some v := by (rw [Lib.cell_of_heap bL2]; rfl))
        | (go_simp; go_at_call 138; refine hcall.mono ?_; rintro e w1 ⟨rfl, cL1, cR1, r1, o1, own1, bL1, bR1⟩; have hsz1 := o1.size; have hlL1 : L < w1.heap.size := (by omega)))
    all_goals
      go_wp2_with fail
      go_end0
      obtain ⟨g1, g2, g3, g4, g5, g6⟩ := grow_step (c := 0) (only.trans o1) hr L0 L1 bL1 own1 hgrow (Nat.le_trans bs hsz1) (.slice (some ⟨gg, 0, none⟩) (l.length + 1) cap')
      refine ⟨g1, ?_, ?_⟩
      · intro S' l' hr'
        rw [M.itemOp, hres] at hr'
        simp only [M.bnd, Except.ok.injEq, Prod.mk.injEq] at hr'
        obtain ⟨rfl, rfl⟩ := hr'
        refine ⟨rfl, g2 _ r1, g1, hr, R0, R1, L0, L1, ne, Nat.le_trans (Nat.le_trans bs hsz1) g5, (g4 R (by omega) (Ne.symm ne) hvR).trans bR1, ⟨_, g3, ?_⟩, ?_⟩
        · have := g6 hown2 L1
          simpa [opCells] using this
        · simp only [List.length_append, List.length_cons, List.length_nil]; omega
      · intro f' hr'; rw [M.itemOp, hres] at hr'; cases hr'
end Go.Proofs.YtkpmpnebmkeocaaGreatDoor
end
section
namespace Go.Proofs.YtkpmpnebmkeocaaGreatDoor
open Go.RowKit

set_option maxHeartbeats 400000 in
theorem list_ops {β : Type} (r : Nat) (last : ByteArray) (hlast : last.size ≠ 0) (item : M.St → β → M.Res β) (Inv : World → M.St → β → Prop) (c1 c2 : Value) (w0 : World)
    (hOnly : ∀ w S b, Inv w S b → Only r w0 w) (hMono : ∀ w w' S S' b, Inv w S b → Only r w w' → S'.rest.length ≤ S.rest.length → Inv w' S' b)
    (hshort : ∀ S b S' b', item S b = .ok (S', b') → S'.rest.length < S.rest.length)
    (hitem : ∀ w S b, Rd w r S → Inv w S b → Calls Tryz.prog 146 #[c1, c2] w fun e w' => Only r w0 w' ∧ (∀ S' b', item S b = .ok (S', b') → e = .returned (.tuple #[]) ∧ Rd w' r S' ∧ Inv w' S' b') ∧ (∀ f, item S b = .error f → e = .panicked (stopOf f)))
    (S : M.St) (b : β) (w : World) (h : Rd w r S) (hi : Inv w S b) :
    Calls Tryz.prog 106 #[.pointer (some ⟨r, 0, none⟩), .string last, .func (.func 146) #[] #[c1, c2]] w fun e w' => Only r w0 w' ∧
      (∀ S' b', M.list last item S b = .ok (S', b') → e = .returned (.tuple #[]) ∧ Rd w' r S' ∧ Inv w' S' b') ∧ (∀ f, M.list last item S b = .error f → e = .panicked (stopOf f)) := by
  cases hl : S.at last
  · have HR : Hid (M.list last item S b = M.bnd (item S b) fun S1 b1 => M.bnd (M.more item S1.rest.length S1 b1) fun S2 b2 => M.bnd (M.take S2 last) fun S3 _ => .ok (S3, b2)) := by unfold Hid; simp [M.list, hl]
    go_enter Tryz.func106, Tryz.ntmps106
    go_wp2_with fail
    refine (passIf_no r S last _ h hl).mono ?_
    rintro e w' ⟨rfl, rfl⟩
    go_wp2_with fail
    refine (hitem _ S b h hi).mono ?_
    rintro e w1 ⟨o1, hok, herr⟩
    cases hit : item S b with
    | error f =>
      obtain rfl := herr f hit
      refine ⟨rfl, o1, ?_, ?_⟩
      · intro S' b' hr'; rw [HR.out, hit] at hr'; cases hr'
      · intro f' hr'; rw [HR.out, hit] at hr'; cases hr'; rfl
    | ok p =>
      obtain ⟨S1, b1⟩ := p
      obtain ⟨rfl, r1, i1⟩ := hok S1 b1 hit
      have HR1 : Hid (M.list last item S b = M.bnd (M.more item S1.rest.length S1 b1) fun S2 b2 => M.bnd (M.take S2 last) fun S3 _ => .ok (S3, b2)) := by unfold Hid; rw [HR.out, hit]; rfl
      clear HR hok herr
      go_wp2_with fail
      go_loopg [] S1.rest.length (fun k wr => ∃ S2 b2, Rd wr r S2 ∧ Inv wr S2 b2 ∧ S2.rest.length ≤ k ∧ Hid (M.more item S1.rest.length S1 b1 = M.more item k S2 b2))
      case atStart => exact ⟨S1, b1, r1, i1, Nat.le_refl _, rfl⟩
      case round =>
        obtain ⟨S2, b2, r2, i2, hk, HM⟩ := hrel
        cases hc : S2.at (M.ch 44)
        · have HM2 : Hid (M.list last item S b = M.bnd (M.take S2 last) fun S3 _ => .ok (S3, b2)) := by
            unfold Hid; rw [HR1.out, HM.out]
            cases gk with
            | zero => rfl
            | succ k => simp only [M.more, hc]; rfl
          go_wp2_with fail
          refine (passIf_no r S2 (M.ch 44) _ r2 hc).mono ?_
          rintro e w' ⟨rfl, rfl⟩
          go_wp2_with fail
          refine (take_any r S2 last _ r2 hlast).mono ?_
          rintro e w3 ⟨o3, hok, herr⟩
          cases htk : M.take S2 last with
          | error f =>
            obtain rfl := herr f htk
            refine ⟨rfl, (hOnly _ _ _ i2).trans o3, ?_, ?_⟩
            · intro S' b' hr'; rw [HM2.out, htk] at hr'; cases hr'
            · intro f' hr'; rw [HM2.out, htk] at hr'; cases hr'; rfl
          | ok p =>
            obtain ⟨S3, u⟩ := p
            obtain ⟨v, rfl, r3, hv⟩ := hok S3 u htk
            obtain rfl : v = .tuple #[] := hv
            go_wp2_with fail
            go_end0
            refine ⟨(hOnly _ _ _ i2).trans o3, ?_, ?_⟩
            · intro S' b' hr'
              rw [HM2.out, htk] at hr'
              simp only [M.bnd, Except.ok.injEq, Prod.mk.injEq] at hr'
              obtain ⟨rfl, rfl⟩ := hr'
              exact ⟨rfl, r3, hMono _ _ _ _ _ i2 o3 (M.take_le htk).rest⟩
            · intro f' hr'; rw [HM2.out, htk] at hr'; cases hr'
        · have hne := M.at_ne hc (by decide)
          have hsh := M.adv_short hne
          cases gk with
          | zero => exact absurd (List.length_eq_zero_iff.1 (Nat.le_zero.1 hk)) hne
          | succ k =>
            have HM2 : Hid (M.more item S1.rest.length S1 b1 = M.bnd (item S2.adv b2) (M.more item k)) := by
              unfold Hid; rw [HM.out]; simp only [M.more, hc]; rfl
            go_wp2_with fail
            refine (passIf_yes r S2 (M.ch 44) _ r2 hc (by decide)).mono ?_
            rintro e w3 ⟨rfl, r3, o3⟩
            go_wp2_with fail
            refine (hitem _ S2.adv b2 r3 (hMono _ _ _ _ _ i2 o3 (Nat.le_of_lt hsh))).mono ?_
            rintro e w4 ⟨o4, hok, herr⟩
            cases hit2 : item S2.adv b2 with
            | error f =>
              obtain rfl := herr f hit2
              refine ⟨rfl, o4, ?_, ?_⟩
              · intro S' b' hr'; rw [HR1.out, HM2.out, hit2] at hr'; cases hr'
              · intro f' hr'; rw [HR1.out, HM2.out, hit2] at hr'; cases hr'; rfl
            | ok p =>
              obtain ⟨S4, b4⟩ := p
              obtain ⟨rfl, r4, i4⟩ := hok S4 b4 hit2
              have hs4 := hshort _ _ _ _ hit2
              go_wp2_with fail
              go_roundg k
              case measure => omega
              case rel => exact ⟨S4, b4, r4, i4, by omega, by unfold Hid; rw [HM2.out, hit2]; rfl⟩
  · have HR : Hid (M.list last item S b = .ok (S.adv, b)) := by unfold Hid; simp [M.list, hl]
    go_enter Tryz.func106, Tryz.ntmps106
    go_wp2_with fail
    refine (passIf_yes r S last _ h hl hlast).mono ?_
    rintro e w1 ⟨rfl, r1, o1⟩
    go_wp2_with fail
    refine bodyPost_ret (results_none rfl _ _ _) rfl ⟨(hOnly _ _ _ hi).trans o1, ?_, ?_⟩
    · intro S' b' hr'
      rw [HR.out] at hr'
      simp only [Except.ok.injEq, Prod.mk.injEq] at hr'
      obtain ⟨rfl, rfl⟩ := hr'
      exact ⟨rfl, r1, hMono _ _ _ _ _ hi o1 (M.adv_le S).rest⟩
    · intro f' hr'; rw [HR.out] at hr'; cases hr'

set_option maxHeartbeats 400000 in
theorem list_fun {β : Type} (r : Nat) (last : ByteArray) (hlast : last.size ≠ 0) (item : M.St → β → M.Res β) (Inv : World → M.St → β → Prop) (c1 c2 : Value) (w0 : World)
    (hOnly : ∀ w S b, Inv w S b → Only r w0 w) (hMono : ∀ w w' S S' b, Inv w S b → Only r w w' → S'.rest.length ≤ S.rest.length → Inv w' S' b)
    (hshort : ∀ S b S' b', item S b = .ok (S', b') → S'.rest.length < S.rest.length)
    (hitem : ∀ w S b, Rd w r S → Inv w S b → Calls Tryz.prog 107 #[c1, c2] w fun e w' => Only r w0 w' ∧ (∀ S' b', item S b = .ok (S', b') → e = .returned (.tuple #[]) ∧ Rd w' r S' ∧ Inv w' S' b') ∧ (∀ f, item S b = .error f → e = .panicked (stopOf f)))
    (S : M.St) (b : β) (w : World) (h : Rd w r S) (hi : Inv w S b) :
    Calls Tryz.prog 106 #[.pointer (some ⟨r, 0, none⟩), .string last, .func (.func 107) #[] #[c1, c2]] w fun e w' => Only r w0 w' ∧
      (∀ S' b', M.list last item S b = .ok (S', b') → e = .returned (.tuple #[]) ∧ Rd w' r S' ∧ Inv w' S' b') ∧ (∀ f, M.list last item S b = .error f → e = .panicked (stopOf f)) := by
  cases hl : S.at last
  · have HR : Hid (M.list last item S b = M.bnd (item S b) fun S1 b1 => M.bnd (M.more item S1.rest.length S1 b1) fun S2 b2 => M.bnd (M.take S2 last) fun S3 _ => .ok (S3, b2)) := by unfold Hid; simp [M.list, hl]
    go_enter Tryz.func106, Tryz.ntmps106
    go_wp2_with fail
    refine (passIf_no r S last _ h hl).mono ?_
    rintro e w' ⟨rfl, rfl⟩
    go_wp2_with fail
    refine (hitem _ S b h hi).mono ?_
    rintro e w1 ⟨o1, hok, herr⟩
    cases hit : item S b with
    | error f =>
      obtain rfl := herr f hit
      refine ⟨rfl, o1, ?_, ?_⟩
      · intro S' b' hr'; rw [HR.out, hit] at hr'; cases hr'
      · intro f' hr'; rw [HR.out, hit] at hr'; cases hr'; rfl
    | ok p =>
      obtain ⟨S1, b1⟩ := p
      obtain ⟨rfl, r1, i1⟩ := hok S1 b1 hit
      have HR1 : Hid (M.list last item S b = M.bnd (M.more item S1.rest.length S1 b1) fun S2 b2 => M.bnd (M.take S2 last) fun S3 _ => .ok (S3, b2)) := by unfold Hid; rw [HR.out, hit]; rfl
      clear HR hok herr
      go_wp2_with fail
      go_loopg [] S1.rest.length (fun k wr => ∃ S2 b2, Rd wr r S2 ∧ Inv wr S2 b2 ∧ S2.rest.length ≤ k ∧ Hid (M.more item S1.rest.length S1 b1 = M.more item k S2 b2))
      case atStart => exact ⟨S1, b1, r1, i1, Nat.le_refl _, rfl⟩
      case round =>
        obtain ⟨S2, b2, r2, i2, hk, HM⟩ := hrel
        cases hc : S2.at (M.ch 44)
        · have HM2 : Hid (M.list last item S b = M.bnd (M.take S2 last) fun S3 _ => .ok (S3, b2)) := by
            unfold Hid; rw [HR1.out, HM.out]
            cases gk with
            | zero => rfl
            | succ k => simp only [M.more, hc]; rfl
          go_wp2_with fail
          refine (passIf_no r S2 (M.ch 44) _ r2 hc).mono ?_
          rintro e w' ⟨rfl, rfl⟩
          go_wp2_with fail
          refine (take_any r S2 last _ r2 hlast).mono ?_
          rintro e w3 ⟨o3, hok, herr⟩
          cases htk : M.take S2 last with
          | error f =>
            obtain rfl := herr f htk
            refine ⟨rfl, (hOnly _ _ _ i2).trans o3, ?_, ?_⟩
            · intro S' b' hr'; rw [HM2.out, htk] at hr'; cases hr'
            · intro f' hr'; rw [HM2.out, htk] at hr'; cases hr'; rfl
          | ok p =>
            obtain ⟨S3, u⟩ := p
            obtain ⟨v, rfl, r3, hv⟩ := hok S3 u htk
            obtain rfl : v = .tuple #[] := hv
            go_wp2_with fail
            go_end0
            refine ⟨(hOnly _ _ _ i2).trans o3, ?_, ?_⟩
            · intro S' b' hr'
              rw [HM2.out, htk] at hr'
              simp only [M.bnd, Except.ok.injEq, Prod.mk.injEq] at hr'
              obtain ⟨rfl, rfl⟩ := hr'
              exact ⟨rfl, r3, hMono _ _ _ _ _ i2 o3 (M.take_le htk).rest⟩
            · intro f' hr'; rw [HM2.out, htk] at hr'; cases hr'
        · have hne := M.at_ne hc (by decide)
          have hsh := M.adv_short hne
          cases gk with
          | zero => exact absurd (List.length_eq_zero_iff.1 (Nat.le_zero.1 hk)) hne
          | succ k =>
            have HM2 : Hid (M.more item S1.rest.length S1 b1 = M.bnd (item S2.adv b2) (M.more item k)) := by
              unfold Hid; rw [HM.out]; simp only [M.more, hc]; rfl
            go_wp2_with fail
            refine (passIf_yes r S2 (M.ch 44) _ r2 hc (by decide)).mono ?_
            rintro e w3 ⟨rfl, r3, o3⟩
            go_wp2_with fail
            refine (hitem _ S2.adv b2 r3 (hMono _ _ _ _ _ i2 o3 (Nat.le_of_lt hsh))).mono ?_
            rintro e w4 ⟨o4, hok, herr⟩
            cases hit2 : item S2.adv b2 with
            | error f =>
              obtain rfl := herr f hit2
              refine ⟨rfl, o4, ?_, ?_⟩
              · intro S' b' hr'; rw [HR1.out, HM2.out, hit2] at hr'; cases hr'
              · intro f' hr'; rw [HR1.out, HM2.out, hit2] at hr'; cases hr'; rfl
            | ok p =>
              obtain ⟨S4, b4⟩ := p
              obtain ⟨rfl, r4, i4⟩ := hok S4 b4 hit2
              have hs4 := hshort _ _ _ _ hit2
              go_wp2_with fail
              go_roundg k
              case measure => omega
              case rel => exact ⟨S4, b4, r4, i4, by omega, by unfold Hid; rw [HM2.out, hit2]; rfl⟩
  · have HR : Hid (M.list last item S b = .ok (S.adv, b)) := by unfold Hid; simp [M.list, hl]
    go_enter Tryz.func106, Tryz.ntmps106
    go_wp2_with fail
    refine (passIf_yes r S last _ h hl hlast).mono ?_
    rintro e w1 ⟨rfl, r1, o1⟩
    go_wp2_with fail
    refine bodyPost_ret (results_none rfl _ _ _) rfl ⟨(hOnly _ _ _ hi).trans o1, ?_, ?_⟩
    · intro S' b' hr'
      rw [HR.out] at hr'
      simp only [Except.ok.injEq, Prod.mk.injEq] at hr'
      obtain ⟨rfl, rfl⟩ := hr'
      exact ⟨rfl, r1, hMono _ _ _ _ _ hi o1 (M.adv_le S).rest⟩
    · intro f' hr'; rw [HR.out] at hr'; cases hr'

set_option maxHeartbeats 400000 in
theorem list_obj {β : Type} (r : Nat) (last : ByteArray) (hlast : last.size ≠ 0) (item : M.St → β → M.Res β) (Inv : World → M.St → β → Prop) (c1 c2 : Value) (w0 : World)
    (hOnly : ∀ w S b, Inv w S b → Only r w0 w) (hMono : ∀ w w' S S' b, Inv w S b → Only r w w' → S'.rest.length ≤ S.rest.length → Inv w' S' b)
    (hshort : ∀ S b S' b', item S b = .ok (S', b') → S'.rest.length < S.rest.length)
    (hitem : ∀ w S b, Rd w r S → Inv w S b → Calls Tryz.prog 147 #[c1, c2] w fun e w' => Only r w0 w' ∧ (∀ S' b', item S b = .ok (S', b') → e = .returned (.tuple #[]) ∧ Rd w' r S' ∧ Inv w' S' b') ∧ (∀ f, item S b = .error f → e = .panicked (stopOf f)))
    (S : M.St) (b : β) (w : World) (h : Rd w r S) (hi : Inv w S b) :
    Calls Tryz.prog 106 #[.pointer (some ⟨r, 0, none⟩), .string last, .func (.func 147) #[] #[c1, c2]] w fun e w' => Only r w0 w' ∧
      (∀ S' b', M.list last item S b = .ok (S', b') → e = .returned (.tuple #[]) ∧ Rd w' r S' ∧ Inv w' S' b') ∧ (∀ f, M.list last item S b = .error f → e = .panicked (stopOf f)) := by
  cases hl : S.at last
  · have HR : Hid (M.list last item S b = M.bnd (item S b) fun S1 b1 => M.bnd (M.more item S1.rest.length S1 b1) fun S2 b2 => M.bnd (M.take S2 last) fun S3 _ => .ok (S3, b2)) := by unfold Hid; simp [M.list, hl]
    go_enter Tryz.func106, Tryz.ntmps106
    go_wp2_with fail
    refine (passIf_no r S last _ h hl).mono ?_
    rintro e w' ⟨rfl, rfl⟩
    go_wp2_with fail
    refine (hitem _ S b h hi).mono ?_
    rintro e w1 ⟨o1, hok, herr⟩
    cases hit : item S b with
    | error f =>
      obtain rfl := herr f hit
      refine ⟨rfl, o1, ?_, ?_⟩
      · intro S' b' hr'; rw [HR.out, hit] at hr'; cases hr'
      · intro f' hr'; rw [HR.out, hit] at hr'; cases hr'; rfl
    | ok p =>
      obtain ⟨S1, b1⟩ := p
      obtain ⟨rfl, r1, i1⟩ := hok S1 b1 hit
      have HR1 : Hid (M.list last item S b = M.bnd (M.more item S1.rest.length S1 b1) fun S2 b2 => M.bnd (M.take S2 last) fun S3 _ => .ok (S3, b2)) := by unfold Hid; rw [HR.out, hit]; rfl
      clear HR hok herr
      go_wp2_with fail
      go_loopg [] S1.rest.length (fun k wr => ∃ S2 b2, Rd wr r S2 ∧ Inv wr S2 b2 ∧ S2.rest.length ≤ k ∧ Hid (M.more item S1.rest.length S1 b1 = M.more item k S2 b2))
      case atStart => exact ⟨S1, b1, r1, i1, Nat.le_refl _, rfl⟩
      case round =>
        obtain ⟨S2, b2, r2, i2, hk, HM⟩ := hrel
        cases hc : S2.at (M.ch 44)
        · have HM2 : Hid (M.list last item S b = M.bnd (M.take S2 last) fun S3 _ => .ok (S3, b2)) := by
            unfold Hid; rw [HR1.out, HM.out]
            cases gk with
            | zero => rfl
            | succ k => simp only [M.more, hc]; rfl
          go_wp2_with fail
          refine (passIf_no r S2 (M.ch 44) _ r2 hc).mono ?_
          rintro e w' ⟨rfl, rfl⟩
          go_wp2_with fail
          refine (take_any r S2 last _ r2 hlast).mono ?_
          rintro e w3 ⟨o3, hok, herr⟩
          cases htk : M.take S2 last with
          | error f =>
            obtain rfl := herr f htk
            refine ⟨rfl, (hOnly _ _ _ i2).trans o3, ?_, ?_⟩
            · intro S' b' hr'; rw [HM2.out, htk] at hr'; cases hr'
            · intro f' hr'; rw [HM2.out, htk] at hr'; cases hr'; rfl
          | ok p =>
            obtain ⟨S3, u⟩ := p
            obtain ⟨v, rfl, r3, hv⟩ := hok S3 u htk
            obtain rfl : v = .tuple #[] := hv
            go_wp2_with fail
            go_end0
            refine ⟨(hOnly _ _ _ i2).trans o3, ?_, ?_⟩
            · intro S' b' hr'
              rw [HM2.out, htk] at hr'
              simp only [M.bnd, Except.ok.injEq, Prod.mk.injEq] at hr'
              obtain ⟨rfl, rfl⟩ := hr'
              exact ⟨rfl, r3, hMono _ _ _ _ _ i2 o3 (M.take_le htk).rest⟩
            · intro f' hr'; rw [HM2.out, htk] at hr'; cases hr'
        · have hne := M.at_ne hc (by decide)
          have hsh := M.adv_short hne
          cases gk with
          | zero => exact absurd (List.length_eq_zero_iff.1 (Nat.le_zero.1 hk)) hne
          | succ k =>
            have HM2 : Hid (M.more item S1.rest.length S1 b1 = M.bnd (item S2.adv b2) (M.more item k)) := by
              unfold Hid; rw [HM.out]; simp only [M.more, hc]; rfl
            go_wp2_with fail
            refine (passIf_yes r S2 (M.ch 44) _ r2 hc (by decide)).mono ?_
            rintro e w3 ⟨rfl, r3, o3⟩
            go_wp2_with fail
            refine (hitem _ S2.adv b2 r3 (hMono _ _ _ _ _ i2 o3 (Nat.le_of_lt hsh))).mono ?_
            rintro e w4 ⟨o4, hok, herr⟩
            cases hit2 : item S2.adv b2 with
            | error f =>
              obtain rfl := herr f hit2
              refine ⟨rfl, o4, ?_, ?_⟩
              · intro S' b' hr'; rw [HR1.out, HM2.out, hit2] at hr'; cases hr'
              · intro f' hr'; rw [HR1.out, HM2.out, hit2] at hr'; cases hr'; rfl
            | ok p =>
              obtain ⟨S4, b4⟩ := p
              obtain ⟨rfl, r4, i4⟩ := hok S4 b4 hit2
              have hs4 := hshort _ _ _ _ hit2
              go_wp2_with fail
              go_roundg k
              case measure => omega
              case rel => exact ⟨S4, b4, r4, i4, by omega, by unfold Hid; rw [HM2.out, hit2]; rfl⟩
  · have HR : Hid (M.list last item S b = .ok (S.adv, b)) := by unfold Hid; simp [M.list, hl]
    go_enter Tryz.func106, Tryz.ntmps106
    go_wp2_with fail
    refine (passIf_yes r S last _ h hl hlast).mono ?_
    rintro e w1 ⟨rfl, r1, o1⟩
    go_wp2_with fail
    refine bodyPost_ret (results_none rfl _ _ _) rfl ⟨(hOnly _ _ _ hi).trans o1, ?_, ?_⟩
    · intro S' b' hr'
      rw [HR.out] at hr'
      simp only [Except.ok.injEq, Prod.mk.injEq] at hr'
      obtain ⟨rfl, rfl⟩ := hr'
      exact ⟨rfl, r1, hMono _ _ _ _ _ hi o1 (M.adv_le S).rest⟩
    · intro f' hr'; rw [HR.out] at hr'; cases hr'
end Go.Proofs.YtkpmpnebmkeocaaGreatDoor
end
section
namespace Go.Proofs.YtkpmpnebmkeocaaGreatDoor
open Go.RowKit

theorem OpsIn.mono {r L R base : Nat} {w0 w w' : World} {S S' : M.St} {l : List M.Opd} (h : OpsIn r L R base w0 w S l) (o : Only r w w') (hle : S'.rest.length ≤ S.rest.length) : OpsIn r L R base w0 w' S' l := by
  obtain ⟨only, hr, R0, R1, L0, L1, ne, bs, boxR, ⟨v, boxL, own⟩, few⟩ := h
  refine ⟨only.trans o, hr, R0, R1, L0, L1, ne, Nat.le_trans bs o.size, ?_, ⟨v, ?_, ownsRow_only own o (by omega)⟩, by omega⟩
  · rw [o.block R (by omega) (by omega)]; exact boxR
  · rw [o.block L (by omega) (by omega)]; exact boxL

theorem M.itemOp_short {S S' : M.St} {l l' : List M.Opd} (h : M.itemOp S l = .ok (S', l')) : S'.rest.length < S.rest.length := by
  obtain ⟨S1, o, h1, h2⟩ := M.bnd_ok h
  cases h2
  exact M.operand_short h1

set_option maxHeartbeats 400000 in
theorem operands_any (r : Nat) (S : M.St) (w : World) (h : Rd w r S) :
    Calls Tryz.prog 141 #[.pointer (some ⟨r, 0, none⟩)] w (Ends r w (opsEnc w) (M.operands S)) := by
  have hlt := h.lt
  have hmf : ∀ (fn : Fn) (first cap : Array Value) (w : World), (Instr.makeFunc fn first cap).run Tryz.prog w = .ok (.func fn first cap) w := fun _ _ _ _ => rfl
  have ha := (h.alloc (.cells #[.pointer (some ⟨r, 0, none⟩)] 110)).alloc (.cells #[.slice none 0 0] 28)
  have oa : Only r w ((w.alloc (.cells #[.pointer (some ⟨r, 0, none⟩)] 110)).alloc (.cells #[.slice none 0 0] 28)) := ((Only.refl r w).alloc _).alloc _
  have bR : ((w.alloc (.cells #[.pointer (some ⟨r, 0, none⟩)] 110)).alloc (.cells #[.slice none 0 0] 28)).heap[w.heap.size]? = some (.cells #[.pointer (some ⟨r, 0, none⟩)] 110 (0, 0)) :=
    (Below.heap_alloc _ _ _ (by simp)).trans (heap_alloc_new w _)
  have bL : ((w.alloc (.cells #[.pointer (some ⟨r, 0, none⟩)] 110)).alloc (.cells #[.slice none 0 0] 28)).heap[w.heap.size + 1]? = some (.cells #[.slice none 0 0] 28 (0, 0)) := by
    have := heap_alloc_new (w.alloc (.cells #[.pointer (some ⟨r, 0, none⟩)] 110)) (.cells #[.slice none 0 0] 28)
    rw [World.size_alloc] at this; exact this
  have hin : OpsIn r (w.heap.size + 1) w.heap.size (w.heap.size + 2) w ((w.alloc (.cells #[.pointer (some ⟨r, 0, none⟩)] 110)).alloc (.cells #[.slice none 0 0] 28)) S [] :=
    ⟨oa, hlt, by omega, by omega, by omega, by omega, by omega, by simp, bR, ⟨_, bL, World.ownsRow_nil _ _ _ _⟩, by simpa using h.few⟩
  go_enter Tryz.func141, Tryz.ntmps141
  go_wp2_with fail
  refine (take_any r S (M.ch 40) _ ha (by decide)).mono ?_
  rintro e w1 ⟨o1, hok, herr⟩
  cases htk : M.take S (M.ch 40) with
  | error f =>
    obtain rfl := herr f htk
    refine ⟨rfl, oa.trans o1, ?_, ?_⟩
    · intro S' b' hr'; rw [M.operands, htk] at hr'; cases hr'
    · intro f' hr'; rw [M.operands, htk] at hr'; cases hr'; rfl
  | ok p =>
    obtain ⟨S1, u⟩ := p
    obtain ⟨v, rfl, r1, hv⟩ := hok S1 u htk
    obtain rfl : v = .tuple #[] := hv
    have HR : Hid (M.operands S = M.list (M.ch 41) M.itemOp S1 []) := by unfold Hid; rw [M.operands, htk]; rfl
    have hin1 := hin.mono o1 (S' := S1) (M.take_le htk).rest
    have cR1 : w1.cell? ⟨w.heap.size, 0, none⟩ = some (.pointer (some ⟨r, 0, none⟩)) := by rw [Lib.cell_of_heap hin1.boxR]; rfl
    go_wp2_with fail
    refine (list_ops r (M.ch 41) (by decide) M.itemOp (fun W S l => OpsIn r (w.heap.size + 1) w.heap.size (w.heap.size + 2) w W S l) _ _ w (fun _ _ _ h => h.only) (fun _ _ _ _ _ h o l => h.mono o l) (fun _ _ _ _ h => M.itemOp_short h)
      (fun W S l hR hI => opItem_any r _ _ _ w W S l hR hI) S1 [] _ r1 hin1).mono ?_
    rintro e w2 ⟨o2, hok2, herr2⟩
    cases hls : M.list (M.ch 41) M.itemOp S1 [] with
    | error f =>
      obtain rfl := herr2 f hls
      refine ⟨rfl, o2, ?_, ?_⟩
      · intro S' b' hr'; rw [HR.out, hls] at hr'; cases hr'
      · intro f' hr'; rw [HR.out, hls] at hr'; cases hr'; rfl
    | ok p =>
      obtain ⟨S2, l⟩ := p
      obtain ⟨rfl, r2, i2⟩ := hok2 S2 l hls
      obtain ⟨v, boxL, own⟩ := i2.boxL
      have cL2 : w2.cell? ⟨w.heap.size + 1, 0, none⟩ = some v := by rw [Lib.cell_of_heap boxL]; rfl
      go_wp2_with fail
      go_ret
      refine ⟨o2, ?_, ?_⟩
      · intro S' b' hr'
        rw [HR.out, hls] at hr'
        simp only [Except.ok.injEq, Prod.mk.injEq] at hr'
        obtain ⟨rfl, rfl⟩ := hr'
        exact ⟨_, rfl, r2, SlAt.of_owns own (fun b hb hx => by have : b < w.heap.size := hx; omega) (by have := i2.few; omega)⟩
      · intro f' hr'; rw [HR.out, hls] at hr'; cases hr'
end Go.Proofs.YtkpmpnebmkeocaaGreatDoor
end
section
namespace Go.Proofs.YtkpmpnebmkeocaaGreatDoor
open Go.RowKit

structure NamesIn (r L R base : Nat) (nm : ByteArray) (w0 w : World) (S : M.St) (l : List ByteArray) : Prop where
  only : Only r w0 w
  hr : r < w0.heap.size
  R0 : R ≠ r
  R1 : R < base
  L0 : w0.heap.size ≤ L
  L1 : L < base
  ne : L ≠ R
  bs : base ≤ w.heap.size
  boxR : w.heap[R]? = some (.cells #[.pointer (some ⟨r, 0, none⟩)] 110 (0, 0))
  boxL : ∃ v, w.heap[L]? = some (.cells #[.string nm, v, .slice none 0 0] 34 (0, 0)) ∧ w.ownsRow base 9 1 v l.length (l.map .string)
  few : l.length + S.rest.length ≤ 4398046511104

theorem NamesIn.mono {r L R base : Nat} {nm : ByteArray} {w0 w w' : World} {S S' : M.St} {l : List ByteArray} (h : NamesIn r L R base nm w0 w S l) (o : Only r w w') (hle : S'.rest.length ≤ S.rest.length) : NamesIn r L R base nm w0 w' S' l := by
  obtain ⟨only, hr, R0, R1, L0, L1, ne, bs, boxR, ⟨v, boxL, own⟩, few⟩ := h
  refine ⟨only.trans o, hr, R0, R1, L0, L1, ne, Nat.le_trans bs o.size, ?_, ⟨v, ?_, ownsRow_only own o (by omega)⟩, by omega⟩
  · rw [o.block R (by omega) (by omega)]; exact boxR
  · rw [o.block L (by omega) (by omega)]; exact boxL

theorem infoStr : (Tryz.prog.info? 9).map (fun i => (i.zero, i.size, i.bytes)) = some (some (.string ⟨#[]⟩), 1, 16) := by kernel_rfl

theorem M.itemName_short {S S' : M.St} {l l' : List ByteArray} (h : M.itemName S l = .ok (S', l')) : S'.rest.length < S.rest.length := by
  obtain ⟨S1, o, h1, h2⟩ := M.bnd_ok h
  cases h2
  exact M.name_short h1

set_option maxRecDepth 8000 in
set_option maxHeartbeats 800000 in
theorem nameItem_any (r L R base : Nat) (nm : ByteArray) (w0 w : World) (S : M.St) (l : List ByteArray) (h : Rd w r S) (hi : NamesIn r L R base nm w0 w S l) :
    Calls Tryz.prog 107 #[.pointer (some ⟨L, 0, none⟩), .pointer (some ⟨R, 0, none⟩)] w fun e w' => Only r w0 w' ∧
      (∀ S' l', M.itemName S l = .ok (S', l') → e = .returned (.tuple #[]) ∧ Rd w' r S' ∧ NamesIn r L R base nm w0 w' S' l') ∧ (∀ f, M.itemName S l = .error f → e = .panicked (stopOf f)) := by
  obtain ⟨only, hr, R0, R1, L0, L1, ne, bs, boxR, ⟨v, boxL, own⟩, few⟩ := hi
  obtain ⟨i0, hi0, hz0, hz1, hz2⟩ := info_parts infoStr
  have cR : w.cell? ⟨R, 0, none⟩ = some (.pointer (some ⟨r, 0, none⟩)) := by rw [Lib.cell_of_heap boxR]; rfl
  have cL : w.cell? ⟨L, 1, none⟩ = some v := by rw [Lib.cell_of_heap boxL]; rfl
  cases hres : M.name S with
  | error f =>
    have hcall : Calls Tryz.prog 105 #[.pointer (some ⟨r, 0, none⟩)] w.drew fun e w' => e = .panicked (stopOf f) ∧ Only r w w' :=
      (name_any r S _ h.drew).mono fun e w' ⟨o1, _, h2⟩ => ⟨h2 f hres, (Only.refl r w).drew.trans o1⟩
    go_enter Tryz.func107, Tryz.ntmps107
    go_wp2_with fail
    refine wp_region_held_drew (S := fun w' => w'.cell? ⟨L, 1, none⟩ = some v ∧ w'.cell? ⟨R, 0, none⟩ = some (.pointer (some ⟨r, 0, none⟩))) (by kernel_rfl) ⟨cL, cR⟩ (fun hHeld => ?_)
    refine wpAnyH_take (i := 0) (oi := _) (v := .pointer (some ⟨L, 1, none⟩)) rfl (by kernel_rfl) (by kernel_rfl) (by kernel_rfl) (fun _ _ _ h => h) (Or.inl ⟨by rfl, ?_⟩) hHeld ?_
    · intro w hSw
      try dsimp only at hSw
      go_simp
    simp only [Act.put, List.setIfInBounds_toArray]
    refine wpAnyH_take (i := 1) (oi := _) (v := v) rfl (by kernel_rfl) (by kernel_rfl) (by kernel_rfl) (fun _ _ _ h => h) (Or.inl ⟨by rfl, ?_⟩) hHeld ?_
    · intro w hSw
      try dsimp only at hSw
      go_simp
    simp only [Act.put]
    refine wpAnyH_take (i := 2) (oi := _) (v := .pointer (some ⟨r, 0, none⟩)) rfl (by kernel_rfl) (by kernel_rfl) (by kernel_rfl) (fun _ _ _ h => h) (Or.inl ⟨by rfl, ?_⟩) hHeld ?_
    · intro w hSw
      try dsimp only at hSw
      go_simp
    simp only [Act.put]
    refine wpAnyH_ready (rs := [3]) (by kernel_rfl) (by simp) ?_
    refine AllReadyH.cons rfl (fun K hK => ?_) AllReadyH.nil
    go_simp
    refine hcall.mono ?_
    rintro e w1 ⟨rfl, o1⟩
    refine ⟨rfl, only.trans o1, ?_, ?_⟩
    · intro S' l' hr'; rw [M.itemName, hres] at hr'; cases hr'
    · intro f' hr'; rw [M.itemName, hres] at hr'; cases hr'; rfl
  | ok p =>
    obtain ⟨S1, o⟩ := p
    have hshort : S1.rest.length < S.rest.length := M.name_short hres
    have hm63 : l.length + 1 ≤ maxLen := by unfold maxLen; omega
    have hmby : (l.length + 1) * 16 ≤ 140737488355328 := by omega
    have hLr : L ≠ r := by omega
    have hRr : R ≠ r := by omega
    have hlL : L < w.heap.size := by omega
    have hlR : R < w.heap.size := by omega
    have hcall : Calls Tryz.prog 105 #[.pointer (some ⟨r, 0, none⟩)] w.drew fun e w' => e = .returned (.string o) ∧ w'.cell? ⟨L, 1, none⟩ = some v ∧ w'.cell? ⟨R, 0, none⟩ = some (.pointer (some ⟨r, 0, none⟩)) ∧ Rd w' r S1 ∧ Only r w w' ∧ w'.ownsRow base 9 1 v l.length (l.map .string) ∧ w'.heap[L]? = some (.cells #[.string nm, v, .slice none 0 0] 34 (0, 0)) ∧ w'.heap[R]? = some (.cells #[.pointer (some ⟨r, 0, none⟩)] 110 (0, 0)) :=
      (name_any r S _ h.drew).mono fun e w' ⟨o1, h1, _⟩ => by
        obtain ⟨v1, rfl, r1, hv1⟩ := h1 S1 o hres
        have o2 : Only r w w' := (Only.refl r w).drew.trans o1
        refine ⟨by rw [hv1], ?_, ?_, r1, o2, ownsRow_only own o2 (by omega), (o2.block L hlL hLr).trans boxL, (o2.block R hlR hRr).trans boxR⟩
        · rw [o2.cell (p := ⟨L, 1, none⟩) hlL hLr]; exact cL
        · rw [o2.cell (p := ⟨R, 0, none⟩) hlR hRr]; exact cR
    have hvL : v.ownBlock ≠ some L := fun e => by have := (own.lt L e).1; omega
    have hvR : v.ownBlock ≠ some R := fun e => by have := (own.lt R e).1; omega
    go_enter Tryz.func107, Tryz.ntmps107
    go_wp2_with fail
    go_region_law
      (first
        | (refine step_append_lies _ (by rfl) _ _ _ (by rfl) base 9 i0 _ 1 16 Tryz.underlying29 hi0 hz0 hz1 hz2 rfl (by omega) v l.length (l.map .string) (by rfl) (own1.alloc _)
            ⟨w1.heap.size, 0, none⟩ 1 1 [.string o] (by rfl) (by rfl) (World.news_of_block (cs := #[.string o]) (t := 9) (fr := (0, 0)) (heap_alloc_new w1 _)) (by simp [Value.oneCell'])
            Nat.one_pos hm63 hmby (by simp; omega) (w1.heap.size + 1) (by simp) ?_; intro gg cap' w2 hown2 hgrow hat hlt2; have bL2 := (hgrow.block L (by rw [World.size_alloc]; omega) (Ne.symm hvL)).trans ((Below.heap_alloc _ _ _ (by omega)).trans bL1); have hfz2 := Lib.frozen_of_heap bL2 1; have cL2 : w2.cell? ⟨L, 1, none⟩ = some v := by (rw [Lib.cell_of_heap bL2]; rfl))
        | (go_simp; go_at_call 105; refine hcall.mono ?_; rintro e w1 ⟨rfl, cL1, cR1, r1, o1, own1, bL1, bR1⟩; have hsz1 := o1.size; have hlL1 : L < w1.heap.size := (by omega)))
    all_goals
      go_wp2_with fail
      go_end0
      obtain ⟨g1, g2, g3, g4, g5, g6⟩ := grow_step (c := 1) (only.trans o1) hr L0 L1 bL1 own1 hgrow (Nat.le_trans bs hsz1) (.slice (some ⟨gg, 0, none⟩) (l.length + 1) cap')
      refine ⟨g1, ?_, ?_⟩
      · intro S' l' hr'
        rw [M.itemName, hres] at hr'
        simp only [M.bnd, Except.ok.injEq, Prod.mk.injEq] at hr'
        obtain ⟨rfl, rfl⟩ := hr'
        refine ⟨rfl, g2 _ r1, g1, hr, R0, R1, L0, L1, ne, Nat.le_trans (Nat.le_trans bs hsz1) g5, (g4 R (by omega) (Ne.symm ne) hvR).trans bR1, ⟨_, g3, ?_⟩, ?_⟩
        · have := g6 hown2 L1
          simpa using this
        · simp only [List.length_append, List.length_cons, List.length_nil]; omega
      · intro f' hr'; rw [M.itemName, hres] at hr'; cases hr'
end Go.Proofs.YtkpmpnebmkeocaaGreatDoor
end
