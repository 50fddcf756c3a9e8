/-
  Plain facts on bytes and tokens: what a source is made of, said by functions on lists; nothing of the program is named here. No conditions.
-/
import Derived.WalkKit
import Derived.Lib.Bytealg
namespace Go.Proofs.YtkonkdhoakcmdaaDoor
namespace M

def isSgn (c : Int) : Prop := c = 123 ∨ c = 125 ∨ c = 40 ∨ c = 41 ∨ c = 44 ∨ c = 59 ∨ c = 46 ∨ c = 61 ∨ c = 43 ∨ c = 45 ∨ c = 42 ∨ c = 60 ∨ c = 38 ∨ c = 58

/-- the class of a byte -/
def cls (c : Int) : Int :=
  if c = 9 ∨ c = 10 ∨ c = 13 ∨ c = 32 then 1
  else if c = 35 then 2
  else if (97 ≤ c ∧ c ≤ 122) ∨ (65 ≤ c ∧ c ≤ 90) then 3
  else if 48 ≤ c ∧ c ≤ 57 then 4
  else if c = 95 then 6
  else if c = 123 ∨ c = 125 ∨ c = 40 ∨ c = 41 ∨ c = 44 ∨ c = 59 ∨ c = 46 ∨ c = 61 ∨ c = 43 ∨ c = 45 ∨ c = 42 ∨ c = 60 ∨ c = 38 ∨ c = 58 then 5
  else 0

theorem idx_all : ∀ n : Fin 256, (decide (0 ≤ Lib.indexByte [123, 125, 40, 41, 44, 59, 46, 61, 43, 45, 42, 60, 38, 58] (UInt8.ofNat n.val))) = decide ((n.val : Int) = 123 ∨ (n.val : Int) = 125 ∨ (n.val : Int) = 40 ∨ (n.val : Int) = 41 ∨ (n.val : Int) = 44 ∨ (n.val : Int) = 59 ∨ (n.val : Int) = 46 ∨ (n.val : Int) = 61 ∨ (n.val : Int) = 43 ∨ (n.val : Int) = 45 ∨ (n.val : Int) = 42 ∨ (n.val : Int) = 60 ∨ (n.val : Int) = 38 ∨ (n.val : Int) = 58) := by
  decide +kernel

theorem idx_iff (c : Int) (h0 : 0 ≤ c) (h1 : c ≤ 255) : (0 ≤ Lib.indexByte [123, 125, 40, 41, 44, 59, 46, 61, 43, 45, 42, 60, 38, 58] (UInt8.ofNat c.toNat)) ↔ (c = 123 ∨ c = 125 ∨ c = 40 ∨ c = 41 ∨ c = 44 ∨ c = 59 ∨ c = 46 ∨ c = 61 ∨ c = 43 ∨ c = 45 ∨ c = 42 ∨ c = 60 ∨ c = 38 ∨ c = 58) := by
  have h := idx_all ⟨c.toNat, by omega⟩
  simp only [Int.toNat_of_nonneg h0] at h
  exact decide_eq_decide.1 h

theorem idx_lt (c : Int) (h0 : 0 ≤ c) (h1 : c ≤ 255) : (Lib.indexByte [123, 125, 40, 41, 44, 59, 46, 61, 43, 45, 42, 60, 38, 58] (UInt8.ofNat c.toNat) < 0) ↔ ¬ (c = 123 ∨ c = 125 ∨ c = 40 ∨ c = 41 ∨ c = 44 ∨ c = 59 ∨ c = 46 ∨ c = 61 ∨ c = 43 ∨ c = 45 ∨ c = 42 ∨ c = 60 ∨ c = 38 ∨ c = 58) := by
  rw [← idx_iff c h0 h1]; omega

/-- how far those bytes go that p takes, from k on -/
def ext (p : UInt8 → Bool) (l : List UInt8) (k : Nat) : Nat := k + ((l.drop k).takeWhile p).length

theorem ext_end (p : UInt8 → Bool) (l : List UInt8) (k : Nat) (h : l.length ≤ k) : ext p l k = k := by
  simp [ext, List.drop_eq_nil_of_le h]

theorem ext_yes (p : UInt8 → Bool) (l : List UInt8) (k : Nat) (h : k < l.length) (hp : p l[k] = true) : ext p l k = ext p l (k + 1) := by
  unfold ext
  rw [List.drop_eq_getElem_cons h, List.takeWhile_cons_of_pos hp]
  simp only [List.length_cons]; omega

theorem ext_no (p : UInt8 → Bool) (l : List UInt8) (k : Nat) (h : k < l.length) (hp : p l[k] = false) : ext p l k = k := by
  unfold ext
  rw [List.drop_eq_getElem_cons h, List.takeWhile_cons_of_neg (by simp [hp])]
  simp

theorem ext_ge (p : UInt8 → Bool) (l : List UInt8) (k : Nat) : k ≤ ext p l k := by unfold ext; omega

theorem ext_le (p : UInt8 → Bool) (l : List UInt8) (k : Nat) (h : k ≤ l.length) : ext p l k ≤ l.length := by
  unfold ext
  have := (List.takeWhile_sublist (p := p) (l := l.drop k)).length_le
  simp only [List.length_drop] at this; omega

def pNl (b : UInt8) : Bool := decide (b.toNat ≠ 10)
def pDig (b : UInt8) : Bool := decide (cls b.toNat = 4)
def pInn (b : UInt8) : Bool := decide (cls b.toNat = 3 ∨ cls b.toNat = 4 ∨ cls b.toNat = 6)

theorem pInn_eq (b : UInt8) : pInn b = (cls b.toNat == 3 || cls b.toNat == 4 || cls b.toNat == 6) := by
  rw [Bool.eq_iff_iff]; simp [pInn, or_assoc]

/-- does a word that is under way go on at k? -/
def goB (l : List UInt8) (k : Nat) : Bool := (l[k]?).any pInn

theorem goB_end (l : List UInt8) (k : Nat) (h : l.length ≤ k) : goB l k = false := by
  rw [goB, List.getElem?_eq_none h]; rfl

theorem goB_in (l : List UInt8) (k : Nat) (h : k < l.length) : goB l k = pInn l[k] := by
  rw [goB, List.getElem?_eq_getElem h]; rfl

theorem goB_true (l : List UInt8) (k : Nat) (h : k < l.length) (hc : cls l[k].toNat = 3 ∨ cls l[k].toNat = 4 ∨ cls l[k].toNat = 6) : goB l k = true := by
  rw [goB_in l k h]; exact decide_eq_true hc

theorem goB_false (l : List UInt8) (k : Nat) (h : k < l.length) (hc : ¬ (cls l[k].toNat = 3 ∨ cls l[k].toNat = 4 ∨ cls l[k].toNat = 6)) : goB l k = false := by
  rw [goB_in l k h]; exact decide_eq_false hc

theorem goB_lt (l : List UInt8) (k : Nat) (h : goB l k = true) : k < l.length := by
  rcases Nat.lt_or_ge k l.length with h1 | h1
  · exact h1
  · rw [goB_end l k h1] at h; cases h


/-- does it begin with a byte of that class? -/
def begB (l : List UInt8) (k : Int) : Bool := l.head?.any (fun c => cls c.toNat == k)
/-- is it just a word? -/
def wordB (l : List UInt8) : Bool := decide (l.length ≤ 65536) && (begB l 3 && (ext pInn l 0 == l.length))
/-- is it just a number? -/
def numB (l : List UInt8) : Bool := !l.isEmpty && (decide (l.length ≤ 9) && (ext pDig l 0 == l.length))

/-- a token -/
structure Tok where
  k : Int
  t : ByteArray
  p : Int

def Tok.eqB (x y : Tok) : Bool := decide (x.k = y.k ∧ x.t = y.t ∧ x.p = y.p)
def same : List Tok → List Tok → Bool
  | [], [] => true
  | x :: l, y :: m => x.eqB y && same l m
  | _, _ => false
def Tok.cells (x : Tok) : List Value := [.int .i64 x.k, .string x.t, .int .i64 x.p]
def row (l : List Tok) : List Value := l.flatMap Tok.cells

/-- may it be? -/
def may1 (x : Tok) : Bool :=
  if x.k = 0 then wordB x.t.data.toList
  else if x.k = 1 then numB x.t.data.toList
  else if x.k = 2 then (x.t.size == 1 && begB x.t.data.toList 5)
  else false
def may (l : List Tok) : Bool := l.all may1

theorem bytes_ext {a b : ByteArray} (h : a.data.toList = b.data.toList) : a = b := by
  obtain ⟨⟨x⟩⟩ := a
  obtain ⟨⟨y⟩⟩ := b
  simp only at h
  rw [h]

theorem eqB_iff (x y : Tok) : x.eqB y = true ↔ x = y := by
  obtain ⟨a, b, c⟩ := x
  obtain ⟨d, e, f⟩ := y
  simp [Tok.eqB]

theorem same_iff : ∀ l m : List Tok, same l m = true ↔ l = m
  | [], [] => by simp [same]
  | [], _ :: _ => by simp [same]
  | _ :: _, [] => by simp [same]
  | x :: l, y :: m => by simp [same, same_iff l m, eqB_iff]

theorem same_ne {l m : List Tok} (h : l ≠ m) : same l m = false := by
  cases e : same l m
  · rfl
  · exact absurd ((same_iff l m).1 e) h

theorem all_take_succ (f : Tok → Bool) (l : List Tok) (j : Nat) (h : j < l.length) : (l.take (j + 1)).all f = ((l.take j).all f && f l[j]) := by
  rw [List.take_succ_eq_append_getElem h, List.all_append]; simp

theorem all_false (f : Tok → Bool) (l : List Tok) (j : Nat) (h : j < l.length) (hf : f l[j] = false) : l.all f = false := by
  rw [List.all_eq_false]
  exact ⟨l[j], List.getElem_mem h, by simp [hf]⟩

end M
end Go.Proofs.YtkonkdhoakcmdaaDoor
