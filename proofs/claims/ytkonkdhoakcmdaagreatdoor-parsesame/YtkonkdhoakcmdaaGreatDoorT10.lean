/-
  The walk of the document's reader's value (proteanref02): what comes in, calls and new objects. Conditions: the state's; how many tokens there are.
-/
import Derived.Test.YtkonkdhoakcmdaaGreatDoorT9
import Derived.Deep.DeepCutAuto
set_option linter.unusedVariables false
set_option linter.unusedSimpArgs false
namespace Go.Proofs.YtkonkdhoakcmdaaGreatDoor
open Go.RowKit

theorem three_newp {w w1 : World} {A B C : Obj} (hb : Below (((w.alloc A).alloc B).alloc C).heap.size (((w.alloc A).alloc B).alloc C) w1) : w1.heap[w.heap.size]? = some A ∧ w1.heap[w.heap.size + 1]? = some B ∧ w1.heap[w.heap.size + 1 + 1]? = some C ∧ Below w.heap.size w w1 := three_new hb
theorem undrew {B : Nat} {W w' : World} (h : Below B W.drew w') : Below B W w' := ⟨h.os, h.tape, h.output, h.size, h.block⟩
theorem keep_alloc {X : Nat → Prop} {w W : World} {o : Obj} (h : Keep X w W) : Keep X w (W.alloc o) := h.trans (Below.keepX (below_box o))
theorem keep_setc {X : Nat → Prop} {w W : World} {p : Addr} {u : Value} (h : Keep X w W) (hp : X p.block) : Keep X w (W.setCell p u) := h.trans (keep_set hp u)
/-- what is read behind what was read -/
theorem bind_st {α β : Type} (q : RSt) (f : M.St → M.Res α) (k : M.St → α → M.Res β) (x : α) (hx : ∀ S' a, bindR q f = .ok (S', a) → x = a) : (bindR q fun S => M.bnd (f S) k) = bindR (stR (bindR q f)) fun S1 => k S1 x := by
  cases q with
  | error e => rfl
  | ok S =>
    show M.bnd (f S) k = bindR (stR (f S)) _
    have hx' : ∀ S' a, f S = .ok (S', a) → x = a := hx
    cases hf : f S with
    | error e => rfl
    | ok p => obtain rfl := hx' p.1 p.2 hf; rfl
theorem bind_end {α β : Type} (q : RSt) (f : M.St → M.Res α) (g : α → β) (x : α) (hx : ∀ S' a, bindR q f = .ok (S', a) → x = a) :
    stR (bindR q fun S => M.bnd (f S) fun S1 b => .ok (S1, g b)) = stR (bindR q f) ∧ ∀ S' b, (bindR q fun S => M.bnd (f S) fun S1 b => .ok (S1, g b)) = .ok (S', b) → g x = b := by
  cases q with
  | error e => exact ⟨rfl, fun _ _ h => by cases h⟩
  | ok S =>
    have hx' : ∀ S' a, f S = .ok (S', a) → x = a := hx
    show stR (M.bnd (f S) _) = stR (f S) ∧ ∀ S' b, M.bnd (f S) _ = .ok (S', b) → g x = b
    cases hf : f S with
    | error e => exact ⟨rfl, fun _ _ h => by cases h⟩
    | ok p => obtain rfl := hx' p.1 p.2 hf; exact ⟨rfl, fun _ _ h => by cases h; rfl⟩

/-- the reader's value -/
def valueR (r : RSt) : M.Res M.Val := bindR r M.value
theorem val_in {S : M.St} (h : isR (.ok S) M.kIn = true) : valueR (.ok S) = .ok (S.adv, ⟨7, M.em, M.em, [], []⟩) := by
  have h' : S.at M.kIn = true := h
  simp [valueR, bindR, M.value, h']
theorem val_call {r : RSt} (h0 : isR r M.kIn = false) (h1 : isR r M.kCall = true) : valueR r = bindR (needR r M.kCall) fun S => M.bnd (M.name S) fun S1 n => M.bnd (M.operands S1) fun S2 l => .ok (S2, ⟨5, M.em, n, l, []⟩) := by
  obtain ⟨S, rfl⟩ := isR_ok h1
  have h0' : S.at M.kIn = false := h0
  have h1' : S.at M.kCall = true := h1
  rw [needR_yes h1]
  simp [valueR, bindR, M.value, h0', h1']
theorem val_new {r : RSt} (h0 : isR r M.kIn = false) (h1 : isR r M.kCall = false) (h2 : isR r M.kNew = true) : valueR r = objectR (needR r M.kNew) := by
  obtain ⟨S, rfl⟩ := isR_ok h2
  have h0' : S.at M.kIn = false := h0
  have h1' : S.at M.kCall = false := h1
  have h2' : S.at M.kNew = true := h2
  rw [needR_yes h2]
  simp [valueR, objectR, bindR, M.value, h0', h1', h2']
theorem val_op {r : RSt} (h0 : isR r M.kIn = false) (h1 : isR r M.kCall = false) (h2 : isR r M.kNew = false) : valueR r = bindR r fun S => M.bnd (M.operand S) M.value2 := by
  cases r with
  | error e => rfl
  | ok S =>
    have h0' : S.at M.kIn = false := h0
    have h1' : S.at M.kCall = false := h1
    have h2' : S.at M.kNew = false := h2
    simp [valueR, bindR, M.value, h0', h1', h2']

set_option maxRecDepth 8000 in
set_option maxHeartbeats 1600000 in
theorem rvalue_in (a : Option Addr) (cap : Nat) (ts : List M.Tok) (fin : Int) (d : Nat) (r : RSt) (i n : Nat) (c y : Int) (w : World) (h : RS ts fin d r i n c y) (hT : TokAt w (.slice a ts.length cap) ts) (hfew : ts.length ≤ 4398046511000) (k0 : isR r M.kIn = true) :
    Calls Tryz.prog 57 #[.agg #[.slice a ts.length cap, .int .i64 (i : Nat), .int .i64 fin, .int .i64 (n : Nat), .int .i64 c, .int .i64 y]] w fun e w' => Below w.heap.size w w' ∧ ∃ (i' : Nat) (c' y' : Int) (v : Value) (x : M.Val), e = .returned (.tuple #[.agg #[.slice a ts.length cap, .int .i64 (i' : Nat), .int .i64 fin, .int .i64 (n : Nat), .int .i64 c', .int .i64 y'], v]) ∧ RS ts fin d (stR (valueR r)) i' n c' y' ∧ valEnc w x v w' ∧ ∀ S' x', valueR r = .ok (S', x') → x = x' := by
  have hi := h.lt
  have hn2 := h.lim
  obtain ⟨S, rfl⟩ := isR_ok k0
  have HV := hid (val_in k0)
  have HN := hid (needR_yes k0)
  have hbw0 := Below.refl w.heap.size w
  go_enter Tryz.func57, Tryz.ntmps57
  go_wp2_with fail
  refine (ris_any _ _ _ _ _ _ _ _ _ _ _ h (hT.keep (below_three _ _ _)) M.kIn (by decide) (by decide)).mono ?_
  rintro e w1 ⟨rfl, hb⟩
  obtain ⟨hP1, hQ1, hR1, hbn⟩ := three_newp hb
  clear hb
  have hbw1 := hbw0.trans (hbn.mono hbw0.size)
  clear hbn 
  obtain ⟨x0, x1, x2, x3, x4, x5, xf⟩ := cells6 hP1
  rw [k0]
  go_wp2_with fail
  clear x0 x1 x2 x3 x4 x5 xf
  refine (rneed_any _ _ _ _ _ _ _ _ _ _ _ h (hT.keep hbw1) M.kIn (by decide) (by decide)).mono ?_
  rintro e w2 ⟨hb, i2, c2, y2, rfl, h2⟩
  have hP2 := kept hb hP1
  have hQ2 := kept hb hQ1
  have hR2 := kept hb hR1
  have hbw2 := hbw1.trans (hb.mono hbw1.size)
  clear hb hP1 hQ1 hR1
  obtain ⟨q0, q1, q2, q3, q4, q5, qf⟩ := cells6 hQ2
  obtain ⟨z0, z1, z2, z3, z4, z5, z6, z7, zf, zz⟩ := cells8 hR2
  have e0 : w.heap.size < w2.heap.size := by omega
  have e1 : w.heap.size + 1 < w2.heap.size := by omega
  go_wp2_with fail
  refine bodyPost_ret (v := .tuple #[.agg #[.slice a ts.length cap, .int .i64 (i2 : Nat), .int .i64 fin, .int .i64 (n : Nat), .int .i64 c2, .int .i64 y2], .agg #[.int .i64 7, .string ⟨#[]⟩, .string ⟨#[]⟩, .string ⟨#[]⟩, .slice none 0 0, .slice none 0 0, .slice none 0 0, .slice none 0 0]]) (by simp [results, Tryz.results57, go_sem, q0, q1, q2, q3, q4, q5, z0, z1, z2, z3, z4, z5, z6, z7, e0, e1, zz]) rfl ⟨?_, i2, c2, y2, _, ⟨7, M.em, M.em, [], []⟩, rfl, by rw [HV.out]; rw [HN.out] at h2; exact h2, ⟨_, _, rfl, OpsAt.nil _ _, StrsAt.nil _ _⟩, fun S' x e => by rw [HV.out] at e; cases e; rfl⟩
  repeat (first | with_reducible exact hbw2 | with_reducible refine Below.setCell ?_ (by first | (simp; done) | (simp; omega)) _ | with_reducible refine Below.drew ?_ | with_reducible refine Below.alloc ?_ (by first | (simp; done) | (simp; omega)) _)

set_option maxRecDepth 8000 in
set_option maxHeartbeats 1600000 in
theorem rvalue_call (a : Option Addr) (cap : Nat) (ts : List M.Tok) (fin : Int) (d : Nat) (r : RSt) (i n : Nat) (c y : Int) (w : World) (h : RS ts fin d r i n c y) (hT : TokAt w (.slice a ts.length cap) ts) (hfew : ts.length ≤ 4398046511000) (k0 : isR r M.kIn = false) (k1 : isR r M.kCall = true) :
    Calls Tryz.prog 57 #[.agg #[.slice a ts.length cap, .int .i64 (i : Nat), .int .i64 fin, .int .i64 (n : Nat), .int .i64 c, .int .i64 y]] w fun e w' => Below w.heap.size w w' ∧ ∃ (i' : Nat) (c' y' : Int) (v : Value) (x : M.Val), e = .returned (.tuple #[.agg #[.slice a ts.length cap, .int .i64 (i' : Nat), .int .i64 fin, .int .i64 (n : Nat), .int .i64 c', .int .i64 y'], v]) ∧ RS ts fin d (stR (valueR r)) i' n c' y' ∧ valEnc w x v w' ∧ ∀ S' x', valueR r = .ok (S', x') → x = x' := by
  have hi := h.lt
  have hn2 := h.lim
  have HV := hid (val_call k0 k1)
  have hbw0 := Below.refl w.heap.size w
  go_enter Tryz.func57, Tryz.ntmps57
  go_wp2_with fail
  refine (ris_any _ _ _ _ _ _ _ _ _ _ _ h (hT.keep (below_three _ _ _)) M.kIn (by decide) (by decide)).mono ?_
  rintro e w1 ⟨rfl, hb⟩
  obtain ⟨hP1, hQ1, hR1, hbn⟩ := three_newp hb
  clear hb
  have hbw1 := hbw0.trans (hbn.mono hbw0.size)
  clear hbn 
  obtain ⟨x0, x1, x2, x3, x4, x5, xf⟩ := cells6 hP1
  rw [k0]
  go_wp2_with fail
  clear x0 x1 x2 x3 x4 x5 xf
  refine (ris_any _ _ _ _ _ _ _ _ _ _ _ h (hT.keep hbw1) M.kCall (by decide) (by decide)).mono ?_
  rintro e w2 ⟨rfl, hb⟩
  have hP2 := kept hb hP1
  have hQ2 := kept hb hQ1
  have hR2 := kept hb hR1
  have hbw2 := hbw1.trans (hb.mono hbw1.size)
  clear hb hP1 hQ1 hR1
  obtain ⟨x0, x1, x2, x3, x4, x5, xf⟩ := cells6 hP2
  rw [k1]
  go_wp2_with fail
  clear x0 x1 x2 x3 x4 x5 xf
  refine (rneed_any _ _ _ _ _ _ _ _ _ _ _ h (hT.keep hbw2) M.kCall (by decide) (by decide)).mono ?_
  rintro e w3 ⟨hb, i3, c3, y3, rfl, h3⟩
  have hP3 := kept hb hP2
  have hQ3 := kept hb hQ2
  have hR3 := kept hb hR2
  have hbw3 := hbw2.trans (hb.mono hbw2.size)
  clear hb hP2 hQ2 hR2
  go_wp2_with fail
  refine (rname_any _ _ _ _ _ _ _ _ _ _ _ h3 (hT.keep hbw3)).mono ?_
  rintro e w4 ⟨hb, i4, c4, y4, s, rfl, h4, hs⟩
  have hP4 := kept hb hP3
  have hQ4 := kept hb hQ3
  have hR4 := kept hb hR3
  have hbw4 := hbw3.trans (hb.mono hbw3.size)
  clear hb hP3 hQ3 hR3
  have hl4 : w.heap.size + 1 + 1 < w4.heap.size := hlt_ hR4
  have hW4 : w.heap.size + 1 + 1 + 1 ≤ (w4.alloc (.cells #[.slice a ts.length cap, .int .i64 (i4 : Nat), .int .i64 fin, .int .i64 (n : Nat), .int .i64 c4, .int .i64 y4] 44)).heap.size := by simp only [World.size_alloc]; omega
  go_wp2_with fail
  refine (rargs_any _ _ _ _ _ _ _ _ _ _ _ h4 (hT.keep (hbw4.trans ((below_box _).mono hbw4.size))) hfew).mono ?_
  rintro e w5 ⟨hb, i5, c5, y5, v, l, rfl, h5, hv, hl⟩
  obtain ⟨hX5, _, hbn⟩ := one_new hb
  clear hb
  have hP5 := kept hbn hP4
  have hQ5 := kept hbn hQ4
  have hR5 := kept hbn hR4
  have hbw5 := hbw4.trans (hbn.mono hbw4.size)
  clear hbn hP4 hQ4 hR4
  obtain ⟨q0, q1, q2, q3, q4, q5, qf⟩ := cells6 hQ5
  obtain ⟨z0, z1, z2, z3, z4, z5, z6, z7, zf, zz⟩ := cells8 hR5
  obtain ⟨av, cv, rfl⟩ := SlAt.form hv
  have HE := hid (bind_end (stR (nameR (needR r M.kCall))) M.operands (fun l => (⟨5, M.em, s, l, []⟩ : M.Val)) l hl)
  have HV2 : Hid (valueR r = bindR (stR (nameR (needR r M.kCall))) fun S1 => M.bnd (M.operands S1) fun S2 l => .ok (S2, ⟨5, M.em, s, l, []⟩)) := by
    unfold Hid; rw [HV.out]; exact bind_st _ M.name (fun S1 n => M.bnd (M.operands S1) fun S2 l => .ok (S2, (⟨5, M.em, n, l, []⟩ : M.Val))) s hs
  have e0 : w.heap.size < w5.heap.size := by omega
  have e1 : w.heap.size + 1 < w5.heap.size := by omega
  go_wp2_with fail
  refine bodyPost_ret (v := .tuple #[.agg #[.slice a ts.length cap, .int .i64 (i5 : Nat), .int .i64 fin, .int .i64 (n : Nat), .int .i64 c5, .int .i64 y5], .agg #[.int .i64 5, .string ⟨#[]⟩, .string ⟨#[]⟩, .string s, .slice av l.length cv, .slice none 0 0, .slice none 0 0, .slice none 0 0]]) (by simp [results, Tryz.results57, go_sem, q0, q1, q2, q3, q4, q5, z0, z1, z2, z3, z4, z5, z6, z7, e0, e1, zz]) rfl ⟨?_, i5, c5, y5, _, ⟨5, M.em, s, l, []⟩, rfl, by rw [HV2.out, HE.out.1]; exact h5, ⟨_, _, rfl, ?_, StrsAt.nil _ _⟩, fun S' x e => by rw [HV2.out] at e; exact HE.out.2 _ _ e⟩
  · repeat (first | with_reducible exact hbw5 | with_reducible refine Below.setCell ?_ (by first | (simp; done) | (simp; omega)) _ | with_reducible refine Below.drew ?_ | with_reducible refine Below.alloc ?_ (by first | (simp; done) | (simp; omega)) _)
  · refine ((SlAt.weak hv (Y := fun b => b < w.heap.size + 1 + 1 + 1) fun b _ hx hy => hx (Nat.lt_of_lt_of_le hy hW4)).keep ?_).weak fun b _ hx hy => hx (by have : b < w.heap.size := hy; omega)
    repeat (first | with_reducible exact keep_self | with_reducible refine keep_drew ?_ | with_reducible refine keep_alloc ?_ | with_reducible refine keep_setc ?_ (by first | (simp; done) | (simp; omega)))

set_option maxRecDepth 8000 in
set_option maxHeartbeats 1600000 in
theorem rvalue_new (a : Option Addr) (cap : Nat) (ts : List M.Tok) (fin : Int) (d : Nat) (r : RSt) (i n : Nat) (c y : Int) (w : World) (h : RS ts fin d r i n c y) (hT : TokAt w (.slice a ts.length cap) ts) (hfew : ts.length ≤ 4398046511000) (k0 : isR r M.kIn = false) (k1 : isR r M.kCall = false) (k2 : isR r M.kNew = true) :
    Calls Tryz.prog 57 #[.agg #[.slice a ts.length cap, .int .i64 (i : Nat), .int .i64 fin, .int .i64 (n : Nat), .int .i64 c, .int .i64 y]] w fun e w' => Below w.heap.size w w' ∧ ∃ (i' : Nat) (c' y' : Int) (v : Value) (x : M.Val), e = .returned (.tuple #[.agg #[.slice a ts.length cap, .int .i64 (i' : Nat), .int .i64 fin, .int .i64 (n : Nat), .int .i64 c', .int .i64 y'], v]) ∧ RS ts fin d (stR (valueR r)) i' n c' y' ∧ valEnc w x v w' ∧ ∀ S' x', valueR r = .ok (S', x') → x = x' := by
  have hi := h.lt
  have hn2 := h.lim
  have HV := hid (val_new k0 k1 k2)
  have hbw0 := Below.refl w.heap.size w
  go_enter Tryz.func57, Tryz.ntmps57
  go_wp2_with fail
  refine (ris_any _ _ _ _ _ _ _ _ _ _ _ h (hT.keep (below_three _ _ _)) M.kIn (by decide) (by decide)).mono ?_
  rintro e w1 ⟨rfl, hb⟩
  obtain ⟨hP1, hQ1, hR1, hbn⟩ := three_newp hb
  clear hb
  have hbw1 := hbw0.trans (hbn.mono hbw0.size)
  clear hbn 
  obtain ⟨x0, x1, x2, x3, x4, x5, xf⟩ := cells6 hP1
  rw [k0]
  go_wp2_with fail
  clear x0 x1 x2 x3 x4 x5 xf
  refine (ris_any _ _ _ _ _ _ _ _ _ _ _ h (hT.keep hbw1) M.kCall (by decide) (by decide)).mono ?_
  rintro e w2 ⟨rfl, hb⟩
  have hP2 := kept hb hP1
  have hQ2 := kept hb hQ1
  have hR2 := kept hb hR1
  have hbw2 := hbw1.trans (hb.mono hbw1.size)
  clear hb hP1 hQ1 hR1
  obtain ⟨x0, x1, x2, x3, x4, x5, xf⟩ := cells6 hP2
  rw [k1]
  go_wp2_with fail
  clear x0 x1 x2 x3 x4 x5 xf
  refine (ris_any _ _ _ _ _ _ _ _ _ _ _ h (hT.keep hbw2) M.kNew (by decide) (by decide)).mono ?_
  rintro e w3 ⟨rfl, hb⟩
  have hP3 := kept hb hP2
  have hQ3 := kept hb hQ2
  have hR3 := kept hb hR2
  have hbw3 := hbw2.trans (hb.mono hbw2.size)
  clear hb hP2 hQ2 hR2
  obtain ⟨x0, x1, x2, x3, x4, x5, xf⟩ := cells6 hP3
  rw [k2]
  go_wp2_with fail
  clear x0 x1 x2 x3 x4 x5 xf
  refine (rneed_any _ _ _ _ _ _ _ _ _ _ _ h (hT.keep hbw3) M.kNew (by decide) (by decide)).mono ?_
  rintro e w4 ⟨hb, i4, c4, y4, rfl, h4⟩
  have hP4 := kept hb hP3
  have hQ4 := kept hb hQ3
  have hR4 := kept hb hR3
  have hbw4 := hbw3.trans (hb.mono hbw3.size)
  clear hb hP3 hQ3 hR3
  have hl4 : w.heap.size + 1 + 1 < w4.heap.size := hlt_ hR4
  go_wp2_with fail
  refine (robject_any _ _ _ _ _ _ _ _ _ _ _ h4 (hT.keep hbw4) hfew).mono ?_
  rintro e w5 ⟨hb, i5, c5, y5, v, x, rfl, h5, ⟨va, vp, rfl, hA, hPr⟩, hx⟩
  have hP5 := kept hb hP4
  have hQ5 := kept hb hQ4
  have hR5 := kept hb hR4
  have hbw5 := hbw4.trans (hb.mono hbw4.size)
  clear hb hP4 hQ4 hR4
  obtain ⟨q0, q1, q2, q3, q4, q5, qf⟩ := cells6 hQ5
  obtain ⟨z0, z1, z2, z3, z4, z5, z6, z7, zf, zz⟩ := cells8 hR5
  obtain ⟨av, cv, rfl⟩ := SlAt.form hA
  obtain ⟨ap, cp, rfl⟩ := SlAt.form hPr
  have e0 : w.heap.size < w5.heap.size := by omega
  have e1 : w.heap.size + 1 < w5.heap.size := by omega
  go_wp2_with fail
  refine bodyPost_ret (v := .tuple #[.agg #[.slice a ts.length cap, .int .i64 (i5 : Nat), .int .i64 fin, .int .i64 (n : Nat), .int .i64 c5, .int .i64 y5], .agg #[.int .i64 x.op, .string ⟨#[]⟩, .string x.y, .string x.p, .slice av x.a.length cv, .slice ap x.pr.length cp, .slice none 0 0, .slice none 0 0]]) (by simp [results, Tryz.results57, go_sem, q0, q1, q2, q3, q4, q5, z0, z1, z2, z3, z4, z5, z6, z7, e0, e1, zz]) rfl ⟨?_, i5, c5, y5, _, x, rfl, by rw [HV.out]; exact h5, ⟨_, _, rfl, ?_, ?_⟩, fun S' x e => by rw [HV.out] at e; exact hx _ _ e⟩
  · repeat (first | with_reducible exact hbw5 | with_reducible refine Below.setCell ?_ (by first | (simp; done) | (simp; omega)) _ | with_reducible refine Below.drew ?_ | with_reducible refine Below.alloc ?_ (by first | (simp; done) | (simp; omega)) _)
  · refine ((SlAt.weak hA (Y := fun b => b < w.heap.size + 1 + 1 + 1) fun b _ hx hy => hx (by show b < _; omega)).keep ?_).weak fun b _ hx hy => hx (by have : b < w.heap.size := hy; omega)
    repeat (first | with_reducible exact keep_self | with_reducible refine keep_drew ?_ | with_reducible refine keep_alloc ?_ | with_reducible refine keep_setc ?_ (by first | (simp; done) | (simp; omega)))
  · refine ((SlAt.weak hPr (Y := fun b => b < w.heap.size + 1 + 1 + 1) fun b _ hx hy => hx (by show b < _; omega)).keep ?_).weak fun b _ hx hy => hx (by have : b < w.heap.size := hy; omega)
    repeat (first | with_reducible exact keep_self | with_reducible refine keep_drew ?_ | with_reducible refine keep_alloc ?_ | with_reducible refine keep_setc ?_ (by first | (simp; done) | (simp; omega)))
end Go.Proofs.YtkonkdhoakcmdaaGreatDoor
