/-
  What stays in memory where only some blocks turn. Nothing of the program is named here. No conditions.
-/
import Derived.Test.YtkpmpnebmkeocaaGreatDoorQA
import Derived.RangeFuncRecord
set_option linter.unusedVariables false
namespace Go.Proofs.YtkpmpnebmkeocaaGreatDoor
open Go.RowKit

theorem hid {p : Prop} (h : p) : Hid p := h
def Halt' (p : Prop) : Prop := p
theorem stopHere {p : Prop} (h : Halt' p) : p := h
theorem stopAt {p : Prop} (h : p) : Halt' p := h
theorem heap_al {w : World} {k : Nat} {o o' : Obj} (h : w.heap[k]? = some o) : (w.alloc o').heap[k]? = some o := (Below.heap_alloc _ _ _ (Array.getElem?_eq_some_iff.1 h).1).trans h
theorem heap_set {w : World} {k g i : Nat} {o : Obj} {v : Value} (h : w.heap[k]? = some o) (hk : k ≠ g) : (w.setCell ⟨g, i, none⟩ v).heap[k]? = some o := (Below.heap_setCell _ _ _ _ hk).trans h

structure Turn (X : Nat → Prop) (W W' : World) : Prop where
  os : W'.os = W.os
  tape : W'.tape = W.tape
  output : W'.output = W.output
  size : W.heap.size ≤ W'.heap.size
  block : ∀ k, k < W.heap.size → ¬ X k → W'.heap[k]? = W.heap[k]?
theorem Turn.refl (X : Nat → Prop) (W : World) : Turn X W W := ⟨rfl, rfl, rfl, Nat.le_refl _, fun _ _ _ => rfl⟩
theorem Turn.trans {X : Nat → Prop} {a b c : World} (h : Turn X a b) (k : Turn X b c) : Turn X a c :=
  ⟨k.os.trans h.os, k.tape.trans h.tape, k.output.trans h.output, Nat.le_trans h.size k.size, fun i hi hx => (k.block i (Nat.lt_of_lt_of_le hi h.size) hx).trans (h.block i hi hx)⟩
theorem Turn.mono {X Y : Nat → Prop} {a b : World} (h : Turn X a b) (hw : ∀ k, X k → Y k) : Turn Y a b := ⟨h.os, h.tape, h.output, h.size, fun k hk hy => h.block k hk fun hx => hy (hw k hx)⟩
theorem Turn.of_below {X : Nat → Prop} {w w' : World} (h : Below w.heap.size w w') : Turn X w w' := ⟨h.os, h.tape, h.output, h.size, fun k hk _ => h.block k hk⟩
theorem Turn.alloc {X : Nat → Prop} {a w : World} (h : Turn X a w) (o : Obj) : Turn X a (w.alloc o) := h.trans (.of_below ((Below.refl _ _).alloc (Nat.le_refl _) o))
theorem Turn.drew {X : Nat → Prop} {a w : World} (h : Turn X a w) : Turn X a w.drew := ⟨h.os, h.tape, h.output, h.size, h.block⟩
theorem Turn.setCell {X : Nat → Prop} {a w : World} (h : Turn X a w) {p : Addr} (hp : X p.block ∨ a.heap.size ≤ p.block) (u : Value) : Turn X a (w.setCell p u) :=
  ⟨h.os, h.tape, h.output, by simpa [World.setCell] using h.size, fun k hk hx => by
    rw [Below.heap_setCell _ _ _ _ (fun e => by rcases hp with hp | hp; exact hx (e ▸ hp); omega)]; exact h.block k hk hx⟩
theorem Turn.grown {X : Nat → Prop} {a w w' : World} {row : Option Nat} (h : Turn X a w) (hg : w.grownBy w' row) (hr : ∀ k, row = some k → X k ∨ a.heap.size ≤ k) : Turn X a w' :=
  ⟨hg.os.trans h.os, hg.tape.trans h.tape, hg.output.trans h.output, Nat.le_trans h.size hg.size, fun k hk hx => by
    rw [hg.block k (Nat.lt_of_lt_of_le hk h.size) (fun e => by rcases hr k e.symm with hp | hp; exact hx hp; omega)]; exact h.block k hk hx⟩
theorem Turn.putObj {X : Nat → Prop} {a w : World} (h : Turn X a w) {l : Nat} (hl : X l) (o : Obj) : Turn X a (w.putObj l o) :=
  ⟨h.os, h.tape, h.output, by simpa using h.size, fun k hk hx => (World.putObj_heap_other (fun e => by subst e; exact hx hl)).trans (h.block k hk hx)⟩
theorem Turn.below {X : Nat → Prop} {n : Nat} {a w w' : World} (hb : Below n a w) (h : Turn X w w') (hn : n ≤ w.heap.size) (hX : ∀ k, X k → n ≤ k) : Below n a w' :=
  hb.trans ⟨h.os, h.tape, h.output, h.size, fun k hk => h.block k (by omega) (fun hx => by have := hX k hx; omega)⟩
structure KeepX (X : Nat → Prop) (W W' : World) : Prop where
  size : W.heap.size ≤ W'.heap.size
  same : ∀ k, X k → W'.heap[k]? = W.heap[k]?
theorem KeepX.refl (X : Nat → Prop) (W : World) : KeepX X W W := ⟨Nat.le_refl _, fun _ _ => rfl⟩
theorem KeepX.trans {X : Nat → Prop} {a b c : World} (h : KeepX X a b) (k : KeepX X b c) : KeepX X a c := ⟨Nat.le_trans h.size k.size, fun i hx => (k.same i hx).trans (h.same i hx)⟩
theorem KeepX.mono {X Y : Nat → Prop} {a b : World} (h : KeepX X a b) (hw : ∀ k, Y k → X k) : KeepX Y a b := ⟨h.size, fun k hk => h.same k (hw k hk)⟩
theorem KeepX.of_below {X : Nat → Prop} {w w' : World} (h : Below w.heap.size w w') (hX : ∀ k, X k → k < w.heap.size) : KeepX X w w' := ⟨h.size, fun k hx => h.block k (hX k hx)⟩
theorem KeepX.setCell {X : Nat → Prop} {w : World} {p : Addr} (hp : ¬ X p.block) (u : Value) : KeepX X w (w.setCell p u) :=
  ⟨by simp [World.setCell], fun k hk => Below.heap_setCell _ _ _ _ fun e => hp (e ▸ hk)⟩
theorem KeepX.putObj {X : Nat → Prop} {w : World} {l : Nat} (hp : ¬ X l) (o : Obj) : KeepX X w (w.putObj l o) := ⟨by simp, fun k hk => World.putObj_heap_other fun e => by subst e; exact hp hk⟩
theorem KeepX.grown {X : Nat → Prop} {w w' : World} {row : Option Nat} (hg : w.grownBy w' row) (hX : ∀ k, X k → k < w.heap.size) (hr : ∀ k, row = some k → ¬ X k) : KeepX X w w' :=
  ⟨hg.size, fun k hk => hg.block k (hX k hk) fun e => hr k e.symm hk⟩

end Go.Proofs.YtkpmpnebmkeocaaGreatDoor
