/-
  What a layer of package print is in memory, and what stays when it goes on. Nothing of the program's code is walked here. No conditions.
-/
import Derived.Test.YtkpmpnebmkeocaaGreatDoorY0
import Derived.Test.YtkpmpnebmkeocaaGreatDoorOC
import Derived.Test.YtkpmpnebmkeocaaGreatDoorSB
import Derived.Lib.AppendStr
import Derived.Lib.LaidTab
set_option linter.unusedVariables false
namespace Go.Proofs.YtkpmpnebmkeocaaGreatDoor
open Go.RowKit

def Hi (B : Nat) : Nat → Prop := fun k => B ≤ k
theorem Turn.keepHi {X : Nat → Prop} {B : Nat} {w w' : World} (h : Turn X w w') (hx : ∀ k, X k → B ≤ k) : Keep (Hi B) w w' := ⟨h.size, fun k hk hb => h.block k hk fun hX => hb (hx k hX)⟩
theorem Turn.next {X X1 : Nat → Prop} {w w1 w2 : World} (t : Turn X w w1) (hx : ∀ k, X1 k → X k ∨ w.heap.size ≤ k) (u : Turn X1 w1 w2) : Turn X w w2 :=
  ⟨u.os.trans t.os, u.tape.trans t.tape, u.output.trans t.output, Nat.le_trans t.size u.size, fun k hk hX =>
    (u.block k (Nat.lt_of_lt_of_le hk t.size) fun h1 => by rcases hx k h1 with h | h; exact hX h; omega).trans (t.block k hk hX)⟩
theorem Turn.belowB {X : Nat → Prop} {B : Nat} {w w' : World} (h : Turn X w w') (hx : ∀ k, X k → B ≤ k) (hB : B ≤ w.heap.size) : Below B w w' :=
  ⟨h.os, h.tape, h.output, h.size, fun k hk => h.block k (by omega) fun hX => by have := hx k hX; omega⟩

def byC (l : List UInt8) : List Value := l.map fun b => Value.int .u8 b.toNat
theorem byC_len (l : List UInt8) : (byC l).length = l.length := by simp [byC]
theorem byC_app (a b : List UInt8) : byC (a ++ b) = byC a ++ byC b := by simp [byC]
theorem byC_str (s : ByteArray) : Lib.strCells s = byC s.data.toList := rfl

def wordT : List (Value × Value) := [(.int .i64 8, .agg #[.string M.kOut]), (.int .i64 11, .agg #[.string M.kReturn]), (.int .i64 9, .agg #[.string M.kIf]), (.int .i64 10, .agg #[.string M.kWhile]), (.int .i64 7, .agg #[.string M.kIn]), (.int .i64 5, .agg #[.string M.kCall]), (.int .i64 4, .agg #[.string M.kNew])]
def operT : List (Value × Value) := [(.agg #[.int .i64 0, .int .i64 0, .string ⟨#[]⟩], .agg #[.string M.kNull]), (.agg #[.int .i64 1, .int .i64 0, .string ⟨#[]⟩], .agg #[.string M.kFalse]), (.agg #[.int .i64 1, .int .i64 1, .string ⟨#[]⟩], .agg #[.string M.kTrue])]
def MapAt (T : List (Value × Value)) (w : World) (b : Nat) : Prop := ∃ es c, w.heap[b]? = some (.map es c) ∧ (∀ e ∈ es.toList, ∃ p ∈ T, e.key = p.1 ∧ e.val = p.2) ∧ ∀ p ∈ T, ∃ e ∈ es.toList, e.key = p.1 ∧ e.val = p.2
theorem MapAt.keep {T : List (Value × Value)} {w w' : World} {b : Nat} (h : MapAt T w b) (hb : b < w.heap.size → w'.heap[b]? = w.heap[b]?) : MapAt T w' b := by
  obtain ⟨es, c, h1, h2, h3⟩ := h
  exact ⟨es, c, (hb (Array.getElem?_eq_some_iff.1 h1).1).trans h1, h2, h3⟩
theorem MapAt.lt {T : List (Value × Value)} {w : World} {b : Nat} (h : MapAt T w b) : b < w.heap.size := by
  obtain ⟨es, c, h1, _⟩ := h
  exact (Array.getElem?_eq_some_iff.1 h1).1

structure TabB (B : Nat) (w : World) : Prop where
  tab : Lib.TabIs Tryz.prog w "internal/strconv.uint64pow10" .u64 Lib.pow10Tab
  lt : ∀ g, Tryz.prog.globalNamed "internal/strconv.uint64pow10" = some g → g < B ∧ g < w.heap.size
theorem TabB.of {w : World} (h : Lib.TabIs Tryz.prog w "internal/strconv.uint64pow10" .u64 Lib.pow10Tab) : TabB w.heap.size w := by
  refine ⟨h, fun g hg => ?_⟩
  unfold Lib.TabIs World.var? at h
  rw [hg] at h
  simp only [Option.bind_some] at h
  rcases Nat.lt_or_ge g w.heap.size with h' | h'
  · exact ⟨h', h'⟩
  · rw [Array.getElem?_eq_none h'] at h; cases h
theorem TabB.keep {B : Nat} {w w' : World} (h : TabB B w) (hz : w.heap.size ≤ w'.heap.size) (hb : ∀ k, k < B → k < w.heap.size → w'.heap[k]? = w.heap[k]?) : TabB B w' := by
  obtain ⟨h1, h2⟩ := h
  refine ⟨?_, fun g hg => ⟨(h2 g hg).1, Nat.lt_of_lt_of_le (h2 g hg).2 hz⟩⟩
  unfold Lib.TabIs World.var? at h1 ⊢
  cases hg : Tryz.prog.globalNamed "internal/strconv.uint64pow10" with
  | none => rw [hg] at h1; cases h1
  | some g =>
    rw [hg] at h1
    simp only [Option.bind_some] at h1 ⊢
    rw [hb g (h2 g hg).1 (h2 g hg).2]
    exact h1
theorem TabB.weak {B : Nat} {w : World} (h : TabB B w) {B' : Nat} (hB : B ≤ B') : TabB B' w := ⟨h.tab, fun g hg => ⟨Nat.lt_of_lt_of_le (h.lt g hg).1 hB, (h.lt g hg).2⟩⟩

structure Lay (B : Nat) (w : World) (X : Nat → Prop) (L : Nat) (s : Option (List UInt8)) : Prop where
  inX : X L
  far : ∀ k, X k → B ≤ k ∧ k < w.heap.size
  tab : TabB B w
  box : ∃ v mw mo b, w.heap[L]? = some (.cells #[v, .bool s.isNone, .map (some mw), .map (some mo)] 59 (0, 0)) ∧ (MapAt wordT w mw ∧ ¬ X mw) ∧ (MapAt operT w mo ∧ ¬ X mo) ∧
    (∀ b', s = some b' → b' = b) ∧ b.length ≤ 65536 ∧ w.ownsRow B 5 1 v b.length (byC b) ∧ ∀ k, v.ownBlock = some k → X k ∧ k ≠ L
theorem Lay.lt {B : Nat} {w : World} {X : Nat → Prop} {L : Nat} {s : Option (List UInt8)} (h : Lay B w X L s) : L < w.heap.size := (h.far L h.inX).2
theorem Lay.keep {B : Nat} {w w' : World} {X : Nat → Prop} {L : Nat} {s : Option (List UInt8)} (h : Lay B w X L s) (hb : Below w.heap.size w w') : Lay B w' X L s := by
  obtain ⟨hX, hf, tb, v, mw, mo, b, h1, ⟨h2, h3⟩, ⟨h4, h5⟩, h6, h7, h8, h9⟩ := h
  refine ⟨hX, fun k hk => ⟨(hf k hk).1, Nat.lt_of_lt_of_le (hf k hk).2 hb.size⟩, tb.keep hb.size (fun k _ hk => hb.block k hk), v, mw, mo, b, kept hb h1, ⟨h2.keep (hb.block mw), h3⟩, ⟨h4.keep (hb.block mo), h5⟩, h6, h7, ?_, h9⟩
  exact h8.kept (row := none) ⟨hb.os, hb.tape, hb.output, hb.size, fun k hk _ => hb.block k hk⟩ (by by_cases e : v.ownBlock = none; exact .inl e; exact .inr e)
theorem Lay.alloc {B : Nat} {w : World} {X : Nat → Prop} {L : Nat} {s : Option (List UInt8)} (h : Lay B w X L s) (o : Obj) : Lay B (w.alloc o) X L s := h.keep ((Below.refl _ _).alloc (Nat.le_refl _) o)
theorem Lay.drew {B : Nat} {w : World} {X : Nat → Prop} {L : Nat} {s : Option (List UInt8)} (h : Lay B w X L s) : Lay B w.drew X L s := h.keep (Below.refl _ _).drew

def LayR (B : Nat) (X : Nat → Prop) (L : Nat) (w : World) (s : Option (List UInt8)) (w' : World) : Prop :=
  ∃ X', Lay B w' X' L s ∧ Turn X w w' ∧ ∀ k, X' k → X k ∨ w.heap.size ≤ k
def LayE (B : Nat) (X : Nat → Prop) (L : Nat) (w : World) (s : Option (List UInt8)) (e : Ending) (w' : World) : Prop := e = .returned (.tuple #[]) ∧ LayR B X L w s w'
theorem LayR.refl {B : Nat} {X : Nat → Prop} {L : Nat} {w : World} {s : Option (List UInt8)} (h : Lay B w X L s) : LayR B X L w s w := ⟨X, h, Turn.refl _ _, fun k hk => .inl hk⟩
theorem LayR.next {B : Nat} {X X1 : Nat → Prop} {L : Nat} {w w1 w2 : World} {s : Option (List UInt8)} (t : Turn X w w1) (hx : ∀ k, X1 k → X k ∨ w.heap.size ≤ k) (h : LayR B X1 L w1 s w2) : LayR B X L w s w2 := by
  obtain ⟨X2, l2, t2, x2⟩ := h
  refine ⟨X2, l2, t.next hx t2, fun k hk => ?_⟩
  rcases x2 k hk with h | h
  · exact hx k h
  · exact .inr (Nat.le_trans t.size h)
theorem LayR.new {B : Nat} {X : Nat → Prop} {L : Nat} {w w1 w2 : World} {s : Option (List UInt8)} (hb : Below w.heap.size w w1) (h : LayR B X L w1 s w2) : LayR B X L w s w2 := LayR.next (.of_below hb) (fun k hk => .inl hk) h
theorem StmAt.turn {B : Nat} {X : Nat → Prop} {w w' : World} {v : Value} {t : M.Tr} (h : StmAt w (Hi B) v t) (ht : Turn X w w') (hx : ∀ k, X k → B ≤ k) : StmAt w' (Hi B) v t := h.keep (ht.keepHi hx)
theorem SlAt.turn {B : Nat} {X : Nat → Prop} {w w' : World} {v : Value} {n : Nat} {cs : List Value} (h : SlAt w (Hi B) v n cs) (ht : Turn X w w') (hx : ∀ k, X k → B ≤ k) : SlAt w' (Hi B) v n cs := h.keep (ht.keepHi hx)
end Go.Proofs.YtkpmpnebmkeocaaGreatDoor
