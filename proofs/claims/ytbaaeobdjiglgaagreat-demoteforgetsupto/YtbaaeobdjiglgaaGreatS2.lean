/-
  Fields and shapes in memory, and the walks of cmp.Compare over strings and of object.byName. No conditions.
-/
import Derived.Test.YtbaaeobdjiglgaaGreatA3
import Derived.Test.YtbaaeobdjiglgaaGreatGA
import Derived.Sort.Walk0
set_option linter.unusedVariables false
set_option linter.unusedSimpArgs false
namespace Go.Proofs.YtbaaeobdjiglgaaGreat
open Go.RowKit Go.Sort

/-- a field as it lies: what it is, and where its atoms lie -/
structure Cel where
  f : M.Fld
  a : Option Addr
  c : Nat
  deriving Inhabited
def Cel.v (x : Cel) : Value := .slice x.a x.f.vs.length x.c
/-- a field as a value -/
def fv (x : Cel) : Value := .agg #[.string x.f.nm, .bool x.f.su, .slice x.a x.f.vs.length x.c]
/-- a field's three cells -/
def fc (x : Cel) : List Value := [.string x.f.nm, .bool x.f.su, .slice x.a x.f.vs.length x.c]
def fldOf (R : List Cel) : List M.Fld := R.map Cel.f
/-- three cells from place p on -/
def Tri (w : World) (b p : Nat) (x : Cel) : Prop :=
  w.cell? ⟨b, p, none⟩ = some (.string x.f.nm) ∧ w.cell? ⟨b, p + 1, none⟩ = some (.bool x.f.su) ∧ w.cell? ⟨b, p + 2, none⟩ = some (.slice x.a x.f.vs.length x.c)
/-- the slice v holds the fields R in the world w -/
def RsAt (w : World) (v : Value) (R : List Cel) : Prop :=
  (∀ x ∈ R, AtAt w x.v x.f.vs) ∧ ∃ a cap, v = .slice a R.length cap ∧ (R = [] ∨ ∃ b o, a = some ⟨b, o, none⟩ ∧ b < w.heap.size ∧ (R.length ≤ cap ∧ cap ≤ maxLen) ∧ ∀ i (h : i < R.length), Tri w b (o + i * 3) R[i])
def FsAt (w : World) (v : Value) (l : List M.Fld) : Prop := ∃ R, fldOf R = l ∧ RsAt w v R
/-- a shape as a value -/
def ShAt (w : World) (v : Value) (s : M.Shp) : Prop := ∃ vf vp, v = .agg #[vf, vp] ∧ FsAt w vf s.fs ∧ AtAt w vp s.pr
/-- one field in the world -/
def OneAt (w : World) (x : Cel) : Prop := AtAt w x.v x.f.vs

theorem Tri.bel {w w' : World} {B b p : Nat} {x : Cel} (h : Tri w b p x) (hlt : b < B) (hb : Below B w w') : Tri w' b p x := by
  obtain ⟨h1, h2, h3⟩ := h
  refine ⟨?_, ?_, ?_⟩
  · rw [hb.cell (p := ⟨b, p, none⟩) hlt]; exact h1
  · rw [hb.cell (p := ⟨b, p + 1, none⟩) hlt]; exact h2
  · rw [hb.cell (p := ⟨b, p + 2, none⟩) hlt]; exact h3
theorem RsAt.bel {w w' : World} {v : Value} {R : List Cel} (h : RsAt w v R) (hb : Below w.heap.size w w') : RsAt w' v R := by
  obtain ⟨h0, a, cap, rfl, h1⟩ := h
  refine ⟨fun x hx => (h0 x hx).bel hb, a, cap, rfl, ?_⟩
  rcases h1 with h1 | ⟨b, o, rfl, hlt, hr, hc⟩
  · exact .inl h1
  · exact .inr ⟨b, o, rfl, Nat.lt_of_lt_of_le hlt hb.size, hr, fun i hi => (hc i hi).bel hlt hb⟩
theorem FsAt.bel {w w' : World} {v : Value} {l : List M.Fld} (h : FsAt w v l) (hb : Below w.heap.size w w') : FsAt w' v l := by
  obtain ⟨R, h1, h2⟩ := h
  exact ⟨R, h1, h2.bel hb⟩
theorem ShAt.bel {w w' : World} {v : Value} {s : M.Shp} (h : ShAt w v s) (hb : Below w.heap.size w w') : ShAt w' v s := by
  obtain ⟨vf, vp, h0, h1, h2⟩ := h
  exact ⟨vf, vp, h0, h1.bel hb, h2.bel hb⟩
theorem OneAt.bel {w w' : World} {x : Cel} (h : OneAt w x) (hb : Below w.heap.size w w') : OneAt w' x := AtAt.bel h hb
theorem RsAt.form {w : World} {v : Value} {R : List Cel} (h : RsAt w v R) : ∃ a cap, v = .slice a R.length cap := by
  obtain ⟨_, a, cap, rfl, _⟩ := h
  exact ⟨a, cap, rfl⟩
theorem fldOf_len (R : List Cel) : (fldOf R).length = R.length := List.length_map ..
theorem fldOf_get (R : List Cel) (i : Nat) (h : i < R.length) : (fldOf R)[i]'(by rw [fldOf_len]; exact h) = R[i].f := by simp [fldOf]
theorem ShAt.form {w : World} {v : Value} {s : M.Shp} (h : ShAt w v s) : ∃ a c b d, v = .agg #[.slice a s.fs.length c, .slice b s.pr.length d] := by
  obtain ⟨vf, vp, rfl, ⟨R, e, hR⟩, hp⟩ := h
  obtain ⟨a, c, rfl⟩ := hR.form
  obtain ⟨b, d, rfl⟩ := hp.form
  exact ⟨a, c, b, d, by rw [← e, fldOf_len]⟩
/-- the parts of a shape -/
theorem ShAt.parts {w : World} {s : M.Shp} {a b : Option Addr} {n c m d : Nat} (h : ShAt w (.agg #[.slice a n c, .slice b m d]) s) : FsAt w (.slice a n c) s.fs ∧ AtAt w (.slice b m d) s.pr := by
  obtain ⟨vf, vp, e, h1, h2⟩ := h
  simp only [Value.agg.injEq, Array.mk.injEq, List.cons.injEq, and_true] at e
  obtain ⟨rfl, rfl⟩ := e
  exact ⟨h1, h2⟩
theorem RsAt.open {w : World} {v : Value} {R : List Cel} (h : RsAt w v R) : ∃ a cap, v = .slice a R.length cap ∧ Hid (R ≠ [] → ∃ b o, a = some ⟨b, o, none⟩ ∧ b < w.heap.size ∧ ∀ i (h : i < R.length), Tri w b (o + i * 3) R[i]) := by
  obtain ⟨_, a, cap, rfl, h1⟩ := h
  refine ⟨a, cap, rfl, fun hne => ?_⟩
  rcases h1 with h1 | ⟨b, o, e, hlt, _, hc⟩
  · exact absurd h1 hne
  · exact ⟨b, o, e, hlt, hc⟩
theorem RsAt.nil (w : World) : RsAt w (.slice none 0 0) [] := ⟨by simp, none, 0, rfl, .inl rfl⟩
theorem AtAt.nil (w : World) : AtAt w (.slice none 0 0) [] := ⟨by simp, none, 0, rfl, .inl rfl⟩
theorem zero_at (w : World) : ShAt w (.agg #[.slice none 0 0, .slice none 0 0]) M.zeroS := ⟨_, _, rfl, ⟨[], rfl, RsAt.nil w⟩, AtAt.nil w⟩
/-- three cells, in every world that comes of it by draws and new blocks -/
theorem tri_grown {W : World} {b p : Nat} {u v x : Value} (hb : b < W.heap.size) (h0 : W.cell? ⟨b, p, none⟩ = some u) (h1 : W.cell? ⟨b, p + 1, none⟩ = some v) (h2 : W.cell? ⟨b, p + 2, none⟩ = some x) :
    (∀ n os, (grow (W.drewN n) os).cell? ⟨b, p, none⟩ = some u) ∧ (∀ n os, (grow (W.drewN n) os).cell? ⟨b, p + 1, none⟩ = some v) ∧ (∀ n os, (grow (W.drewN n) os).cell? ⟨b, p + 2, none⟩ = some x) :=
  ⟨fun n os => cell_grown hb h0 n os, fun n os => cell_grown hb h1 n os, fun n os => cell_grown hb h2 n os⟩
theorem new_tri (W : World) (u v x : Value) (t : TypeId) : (W.alloc (.cells #[u, v, x] t)).cell? ⟨W.heap.size, 0, none⟩ = some u ∧ (W.alloc (.cells #[u, v, x] t)).cell? ⟨W.heap.size, 1, none⟩ = some v ∧ (W.alloc (.cells #[u, v, x] t)).cell? ⟨W.heap.size, 2, none⟩ = some x := by
  have hn := heap_alloc_new W (.cells #[u, v, x] t)
  exact ⟨by rw [Lib.cell_of_heap hn]; rfl, by rw [Lib.cell_of_heap hn]; rfl, by rw [Lib.cell_of_heap hn]; rfl⟩

/-! Names. -/
theorem less_ltN (a b : ByteArray) : Op.bytesLess a.toList b.toList = M.ltN a b := bytesLess_eq _ _
theorem same_name (a b : ByteArray) : (a.toList == b.toList) = decide (a = b) := by
  rw [Bool.eq_iff_iff]; simp [M.toList_inj]
def cmpN (a b : ByteArray) : Int := if M.ltN a b then -1 else if M.ltN b a then 1 else 0
theorem cmpN_lt (a b : ByteArray) : cmpN a b < 0 ↔ M.ltN a b = true := by
  unfold cmpN
  cases h1 : M.ltN a b <;> cases h2 : M.ltN b a <;> simp
theorem cmpN_zero (a b : ByteArray) : cmpN a b = 0 ↔ a = b := by
  unfold cmpN
  constructor
  · intro h
    cases h1 : M.ltN a b with
    | true => rw [h1] at h; simp at h
    | false =>
      cases h2 : M.ltN b a with
      | true => rw [h1, h2] at h; simp at h
      | false => exact M.ltN_tri h1 h2
  · rintro rfl
    rw [M.ltN_irrefl]; simp

theorem cmpN_m {a b : ByteArray} (h : M.ltN a b = true) : -1 = cmpN a b := by unfold cmpN; rw [if_pos h]
theorem cmpN_p {a b : ByteArray} (h : M.ltN a b = false) (h2 : (!decide (a = b)) = true) : 1 = cmpN a b := by
  unfold cmpN
  rw [if_neg (by rw [h]; simp)]
  cases h3 : M.ltN b a with
  | true => rfl
  | false =>
    have e := M.ltN_tri h h3
    subst e
    simp at h2
theorem cmpN_e {a b : ByteArray} (h2 : (!decide (a = b)) = false) : 0 = cmpN a b := by
  symm
  rw [cmpN_zero]
  simpa using h2
set_option maxHeartbeats 1000000 in
theorem compare_str (a b : ByteArray) (w : World) : Calls Tryz.prog 72 #[.string a, .string b] w fun e w' => e = .returned (.int .i64 (cmpN a b)) ∧ w' = w := by
  go_enter Tryz.func72, Tryz.ntmps72
  go_wp2
  all_goals
    go_ret
    refine ⟨ret_int ?_, rfl⟩
    simp only [less_ltN, same_name] at *
    first
      | exact cmpN_m (by assumption)
      | exact cmpN_p (by assumption) (by assumption)
      | exact cmpN_e (by assumption)

set_option maxHeartbeats 1000000 in
theorem byName_any (x y : Cel) (w : World) : Calls Tryz.prog 79 #[fv x, fv y] w fun e w' => e = .returned (.int .i64 (cmpN x.f.nm y.f.nm)) ∧ Gr w w' := by
  unfold fv
  go_enter Tryz.func79, Tryz.ntmps79
  go_wp2_with (go_at_call 72; refine (compare_str _ _ _).mono ?_; rintro e w' ⟨rfl, rfl⟩)
  go_ret
  exact ⟨rfl, ((Gr.refl _).alloc _).alloc _⟩
end Go.Proofs.YtbaaeobdjiglgaaGreat
