/-
  The walk of the document's reader's value (proteanref02): what comes in, calls and new objects. Conditions: the state's; how many tokens there are.
-/
import Derived.Test.YtkpmpnebmkeocaaGreatDoorTB
import Derived.Deep.DeepCutAuto
import Derived.Test.YtkpmpnebmkeocaaGreatDoorRA
import Derived.Deep.RegionHeld3
set_option linter.unusedSimpArgs false
set_option linter.unusedVariables false
section
namespace Go.Proofs.YtkpmpnebmkeocaaGreatDoor
open Go.RowKit

theorem three_newp {w w1 : World} {A B C : Obj} (hb : Below (((w.alloc A).alloc B).alloc C).heap.size (((w.alloc A).alloc B).alloc C) w1) : w1.heap[w.heap.size]? = some A ∧ w1.heap[w.heap.size + 1]? = some B ∧ w1.heap[w.heap.size + 1 + 1]? = some C ∧ Below w.heap.size w w1 := three_new hb
theorem undrew {B : Nat} {W w' : World} (h : Below B W.drew w') : Below B W w' := ⟨h.os, h.tape, h.output, h.size, h.block⟩
theorem keep_alloc {X : Nat → Prop} {w W : World} {o : Obj} (h : Keep X w W) : Keep X w (W.alloc o) := h.trans (Below.keepX (below_box o))
theorem keep_setc {X : Nat → Prop} {w W : World} {p : Addr} {u : Value} (h : Keep X w W) (hp : X p.block) : Keep X w (W.setCell p u) := h.trans (keep_set hp u)
theorem bind_st {α β : Type} (q : RSt) (f : M.St → M.Res α) (k : M.St → α → M.Res β) (x : α) (hx : ∀ S' a, bindR q f = .ok (S', a) → x = a) : (bindR q fun S => M.bnd (f S) k) = bindR (stR (bindR q f)) fun S1 => k S1 x := by
  cases q with
  | error e => rfl
  | ok S =>
    show M.bnd (f S) k = bindR (stR (f S)) _
    have hx' : ∀ S' a, f S = .ok (S', a) → x = a := hx
    cases hf : f S with
    | error e => rfl
    | ok p => obtain rfl := hx' p.1 p.2 hf; rfl
theorem bind_end {α β : Type} (q : RSt) (f : M.St → M.Res α) (g : α → β) (x : α) (hx : ∀ S' a, bindR q f = .ok (S', a) → x = a) :
    stR (bindR q fun S => M.bnd (f S) fun S1 b => .ok (S1, g b)) = stR (bindR q f) ∧ ∀ S' b, (bindR q fun S => M.bnd (f S) fun S1 b => .ok (S1, g b)) = .ok (S', b) → g x = b := by
  cases q with
  | error e => exact ⟨rfl, fun _ _ h => by cases h⟩
  | ok S =>
    have hx' : ∀ S' a, f S = .ok (S', a) → x = a := hx
    show stR (M.bnd (f S) _) = stR (f S) ∧ ∀ S' b, M.bnd (f S) _ = .ok (S', b) → g x = b
    cases hf : f S with
    | error e => exact ⟨rfl, fun _ _ h => by cases h⟩
    | ok p => obtain rfl := hx' p.1 p.2 hf; exact ⟨rfl, fun _ _ h => by cases h; rfl⟩

def valueR (r : RSt) : M.Res M.Val := bindR r M.value
theorem val_in {S : M.St} (h : isR (.ok S) M.kIn = true) : valueR (.ok S) = .ok (S.adv, ⟨7, M.em, M.em, [], []⟩) := by
  have h' : S.at M.kIn = true := h
  simp [valueR, bindR, M.value, h']
theorem val_call {r : RSt} (h0 : isR r M.kIn = false) (h1 : isR r M.kCall = true) : valueR r = bindR (needR r M.kCall) fun S => M.bnd (M.name S) fun S1 n => M.bnd (M.operands S1) fun S2 l => .ok (S2, ⟨5, M.em, n, l, []⟩) := by
  obtain ⟨S, rfl⟩ := isR_ok h1
  have h0' : S.at M.kIn = false := h0
  have h1' : S.at M.kCall = true := h1
  rw [needR_yes h1]
  simp [valueR, bindR, M.value, h0', h1']
theorem val_new {r : RSt} (h0 : isR r M.kIn = false) (h1 : isR r M.kCall = false) (h2 : isR r M.kNew = true) : valueR r = objectR (needR r M.kNew) := by
  obtain ⟨S, rfl⟩ := isR_ok h2
  have h0' : S.at M.kIn = false := h0
  have h1' : S.at M.kCall = false := h1
  have h2' : S.at M.kNew = true := h2
  rw [needR_yes h2]
  simp [valueR, objectR, bindR, M.value, h0', h1', h2']
theorem val_op {r : RSt} (h0 : isR r M.kIn = false) (h1 : isR r M.kCall = false) (h2 : isR r M.kNew = false) : valueR r = bindR r fun S => M.bnd (M.operand S) M.value2 := by
  cases r with
  | error e => rfl
  | ok S =>
    have h0' : S.at M.kIn = false := h0
    have h1' : S.at M.kCall = false := h1
    have h2' : S.at M.kNew = false := h2
    simp [valueR, bindR, M.value, h0', h1', h2']

set_option maxRecDepth 8000 in
set_option maxHeartbeats 1600000 in
theorem rvalue_in (a : Option Addr) (cap : Nat) (ts : List M.Tok) (fin : Int) (d : Nat) (r : RSt) (i n : Nat) (c y : Int) (w : World) (h : RS ts fin d r i n c y) (hT : TokAt w (.slice a ts.length cap) ts) (hfew : ts.length ≤ 4398046511000) (k0 : isR r M.kIn = true) :
    Calls Tryz.prog 92 #[.agg #[.slice a ts.length cap, .int .i64 (i : Nat), .int .i64 fin, .int .i64 (n : Nat), .int .i64 c, .int .i64 y]] w fun e w' => Below w.heap.size w w' ∧ ∃ (i' : Nat) (c' y' : Int) (v : Value) (x : M.Val), e = .returned (.tuple #[.agg #[.slice a ts.length cap, .int .i64 (i' : Nat), .int .i64 fin, .int .i64 (n : Nat), .int .i64 c', .int .i64 y'], v]) ∧ RS ts fin d (stR (valueR r)) i' n c' y' ∧ valEnc w x v w' ∧ ∀ S' x', valueR r = .ok (S', x') → x = x' := by
  have hi := h.lt
  have hn2 := h.lim
  obtain ⟨S, rfl⟩ := isR_ok k0
  have HV := hid (val_in k0)
  have HN := hid (needR_yes k0)
  have hbw0 := Below.refl w.heap.size w
  go_enter Tryz.func92, Tryz.ntmps92
  go_wp2_with fail
  refine (ris_any _ _ _ _ _ _ _ _ _ _ _ h (hT.keep (below_three _ _ _)) M.kIn (by decide) (by decide)).mono ?_
  rintro e w1 ⟨rfl, hb⟩
  obtain ⟨hP1, hQ1, hR1, hbn⟩ := three_newp hb
  clear hb
  have hbw1 := hbw0.trans (hbn.mono hbw0.size)
  clear hbn 
  obtain ⟨x0, x1, x2, x3, x4, x5, xf⟩ := cells6 hP1
  rw [k0]
  go_wp2_with fail
  clear x0 x1 x2 x3 x4 x5 xf
  refine (rneed_any _ _ _ _ _ _ _ _ _ _ _ h (hT.keep hbw1) M.kIn (by decide) (by decide)).mono ?_
  rintro e w2 ⟨hb, i2, c2, y2, rfl, h2⟩
  have hP2 := kept hb hP1
  have hQ2 := kept hb hQ1
  have hR2 := kept hb hR1
  have hbw2 := hbw1.trans (hb.mono hbw1.size)
  clear hb hP1 hQ1 hR1
  obtain ⟨q0, q1, q2, q3, q4, q5, qf⟩ := cells6 hQ2
  obtain ⟨z0, z1, z2, z3, z4, z5, z6, z7, zf, zz⟩ := cells8 hR2
  have e0 : w.heap.size < w2.heap.size := by omega
  have e1 : w.heap.size + 1 < w2.heap.size := by omega
  go_wp2_with fail
  refine bodyPost_ret (v := .tuple #[.agg #[.slice a ts.length cap, .int .i64 (i2 : Nat), .int .i64 fin, .int .i64 (n : Nat), .int .i64 c2, .int .i64 y2], .agg #[.int .i64 7, .string ⟨#[]⟩, .string ⟨#[]⟩, .string ⟨#[]⟩, .slice none 0 0, .slice none 0 0, .slice none 0 0, .slice none 0 0]]) (by simp [results, Tryz.results92, go_sem, q0, q1, q2, q3, q4, q5, z0, z1, z2, z3, z4, z5, z6, z7, e0, e1, zz]) rfl ⟨?_, i2, c2, y2, _, ⟨7, M.em, M.em, [], []⟩, rfl, by rw [HV.out]; rw [HN.out] at h2; exact h2, ⟨_, _, rfl, OpsAt.nil _ _, StrsAt.nil _ _⟩, fun S' x e => by rw [HV.out] at e; cases e; rfl⟩
  repeat (first | with_reducible exact hbw2 | with_reducible refine Below.setCell ?_ (by first | (simp; done) | (simp; omega)) _ | with_reducible refine Below.drew ?_ | with_reducible refine Below.alloc ?_ (by first | (simp; done) | (simp; omega)) _)

set_option maxRecDepth 8000 in
set_option maxHeartbeats 1600000 in
theorem rvalue_call (a : Option Addr) (cap : Nat) (ts : List M.Tok) (fin : Int) (d : Nat) (r : RSt) (i n : Nat) (c y : Int) (w : World) (h : RS ts fin d r i n c y) (hT : TokAt w (.slice a ts.length cap) ts) (hfew : ts.length ≤ 4398046511000) (k0 : isR r M.kIn = false) (k1 : isR r M.kCall = true) :
    Calls Tryz.prog 92 #[.agg #[.slice a ts.length cap, .int .i64 (i : Nat), .int .i64 fin, .int .i64 (n : Nat), .int .i64 c, .int .i64 y]] w fun e w' => Below w.heap.size w w' ∧ ∃ (i' : Nat) (c' y' : Int) (v : Value) (x : M.Val), e = .returned (.tuple #[.agg #[.slice a ts.length cap, .int .i64 (i' : Nat), .int .i64 fin, .int .i64 (n : Nat), .int .i64 c', .int .i64 y'], v]) ∧ RS ts fin d (stR (valueR r)) i' n c' y' ∧ valEnc w x v w' ∧ ∀ S' x', valueR r = .ok (S', x') → x = x' := by
  have hi := h.lt
  have hn2 := h.lim
  have HV := hid (val_call k0 k1)
  have hbw0 := Below.refl w.heap.size w
  go_enter Tryz.func92, Tryz.ntmps92
  go_wp2_with fail
  refine (ris_any _ _ _ _ _ _ _ _ _ _ _ h (hT.keep (below_three _ _ _)) M.kIn (by decide) (by decide)).mono ?_
  rintro e w1 ⟨rfl, hb⟩
  obtain ⟨hP1, hQ1, hR1, hbn⟩ := three_newp hb
  clear hb
  have hbw1 := hbw0.trans (hbn.mono hbw0.size)
  clear hbn 
  obtain ⟨x0, x1, x2, x3, x4, x5, xf⟩ := cells6 hP1
  rw [k0]
  go_wp2_with fail
  clear x0 x1 x2 x3 x4 x5 xf
  refine (ris_any _ _ _ _ _ _ _ _ _ _ _ h (hT.keep hbw1) M.kCall (by decide) (by decide)).mono ?_
  rintro e w2 ⟨rfl, hb⟩
  have hP2 := kept hb hP1
  have hQ2 := kept hb hQ1
  have hR2 := kept hb hR1
  have hbw2 := hbw1.trans (hb.mono hbw1.size)
  clear hb hP1 hQ1 hR1
  obtain ⟨x0, x1, x2, x3, x4, x5, xf⟩ := cells6 hP2
  rw [k1]
  go_wp2_with fail
  clear x0 x1 x2 x3 x4 x5 xf
  refine (rneed_any _ _ _ _ _ _ _ _ _ _ _ h (hT.keep hbw2) M.kCall (by decide) (by decide)).mono ?_
  rintro e w3 ⟨hb, i3, c3, y3, rfl, h3⟩
  have hP3 := kept hb hP2
  have hQ3 := kept hb hQ2
  have hR3 := kept hb hR2
  have hbw3 := hbw2.trans (hb.mono hbw2.size)
  clear hb hP2 hQ2 hR2
  go_wp2_with fail
  refine (rname_any _ _ _ _ _ _ _ _ _ _ _ h3 (hT.keep hbw3)).mono ?_
  rintro e w4 ⟨hb, i4, c4, y4, s, rfl, h4, hs⟩
  have hP4 := kept hb hP3
  have hQ4 := kept hb hQ3
  have hR4 := kept hb hR3
  have hbw4 := hbw3.trans (hb.mono hbw3.size)
  clear hb hP3 hQ3 hR3
  have hl4 : w.heap.size + 1 + 1 < w4.heap.size := hlt_ hR4
  have hW4 : w.heap.size + 1 + 1 + 1 ≤ (w4.alloc (.cells #[.slice a ts.length cap, .int .i64 (i4 : Nat), .int .i64 fin, .int .i64 (n : Nat), .int .i64 c4, .int .i64 y4] 81)).heap.size := by simp only [World.size_alloc]; omega
  go_wp2_with fail
  refine (rargs_any _ _ _ _ _ _ _ _ _ _ _ h4 (hT.keep (hbw4.trans ((below_box _).mono hbw4.size))) hfew).mono ?_
  rintro e w5 ⟨hb, i5, c5, y5, v, l, rfl, h5, hv, hl⟩
  obtain ⟨hX5, _, hbn⟩ := one_new hb
  clear hb
  have hP5 := kept hbn hP4
  have hQ5 := kept hbn hQ4
  have hR5 := kept hbn hR4
  have hbw5 := hbw4.trans (hbn.mono hbw4.size)
  clear hbn hP4 hQ4 hR4
  obtain ⟨q0, q1, q2, q3, q4, q5, qf⟩ := cells6 hQ5
  obtain ⟨z0, z1, z2, z3, z4, z5, z6, z7, zf, zz⟩ := cells8 hR5
  obtain ⟨av, cv, rfl⟩ := SlAt.form hv
  have HE := hid (bind_end (stR (nameR (needR r M.kCall))) M.operands (fun l => (⟨5, M.em, s, l, []⟩ : M.Val)) l hl)
  have HV2 : Hid (valueR r = bindR (stR (nameR (needR r M.kCall))) fun S1 => M.bnd (M.operands S1) fun S2 l => .ok (S2, ⟨5, M.em, s, l, []⟩)) := by
    unfold Hid; rw [HV.out]; exact bind_st _ M.name (fun S1 n => M.bnd (M.operands S1) fun S2 l => .ok (S2, (⟨5, M.em, n, l, []⟩ : M.Val))) s hs
  have e0 : w.heap.size < w5.heap.size := by omega
  have e1 : w.heap.size + 1 < w5.heap.size := by omega
  go_wp2_with fail
  refine bodyPost_ret (v := .tuple #[.agg #[.slice a ts.length cap, .int .i64 (i5 : Nat), .int .i64 fin, .int .i64 (n : Nat), .int .i64 c5, .int .i64 y5], .agg #[.int .i64 5, .string ⟨#[]⟩, .string ⟨#[]⟩, .string s, .slice av l.length cv, .slice none 0 0, .slice none 0 0, .slice none 0 0]]) (by simp [results, Tryz.results92, go_sem, q0, q1, q2, q3, q4, q5, z0, z1, z2, z3, z4, z5, z6, z7, e0, e1, zz]) rfl ⟨?_, i5, c5, y5, _, ⟨5, M.em, s, l, []⟩, rfl, by rw [HV2.out, HE.out.1]; exact h5, ⟨_, _, rfl, ?_, StrsAt.nil _ _⟩, fun S' x e => by rw [HV2.out] at e; exact HE.out.2 _ _ e⟩
  · repeat (first | with_reducible exact hbw5 | with_reducible refine Below.setCell ?_ (by first | (simp; done) | (simp; omega)) _ | with_reducible refine Below.drew ?_ | with_reducible refine Below.alloc ?_ (by first | (simp; done) | (simp; omega)) _)
  · refine ((SlAt.weak hv (Y := fun b => b < w.heap.size + 1 + 1 + 1) fun b _ hx hy => hx (Nat.lt_of_lt_of_le hy hW4)).keep ?_).weak fun b _ hx hy => hx (by have : b < w.heap.size := hy; omega)
    repeat (first | with_reducible exact keep_self | with_reducible refine keep_drew ?_ | with_reducible refine keep_alloc ?_ | with_reducible refine keep_setc ?_ (by first | (simp; done) | (simp; omega)))

set_option maxRecDepth 8000 in
set_option maxHeartbeats 1600000 in
theorem rvalue_new (a : Option Addr) (cap : Nat) (ts : List M.Tok) (fin : Int) (d : Nat) (r : RSt) (i n : Nat) (c y : Int) (w : World) (h : RS ts fin d r i n c y) (hT : TokAt w (.slice a ts.length cap) ts) (hfew : ts.length ≤ 4398046511000) (k0 : isR r M.kIn = false) (k1 : isR r M.kCall = false) (k2 : isR r M.kNew = true) :
    Calls Tryz.prog 92 #[.agg #[.slice a ts.length cap, .int .i64 (i : Nat), .int .i64 fin, .int .i64 (n : Nat), .int .i64 c, .int .i64 y]] w fun e w' => Below w.heap.size w w' ∧ ∃ (i' : Nat) (c' y' : Int) (v : Value) (x : M.Val), e = .returned (.tuple #[.agg #[.slice a ts.length cap, .int .i64 (i' : Nat), .int .i64 fin, .int .i64 (n : Nat), .int .i64 c', .int .i64 y'], v]) ∧ RS ts fin d (stR (valueR r)) i' n c' y' ∧ valEnc w x v w' ∧ ∀ S' x', valueR r = .ok (S', x') → x = x' := by
  have hi := h.lt
  have hn2 := h.lim
  have HV := hid (val_new k0 k1 k2)
  have hbw0 := Below.refl w.heap.size w
  go_enter Tryz.func92, Tryz.ntmps92
  go_wp2_with fail
  refine (ris_any _ _ _ _ _ _ _ _ _ _ _ h (hT.keep (below_three _ _ _)) M.kIn (by decide) (by decide)).mono ?_
  rintro e w1 ⟨rfl, hb⟩
  obtain ⟨hP1, hQ1, hR1, hbn⟩ := three_newp hb
  clear hb
  have hbw1 := hbw0.trans (hbn.mono hbw0.size)
  clear hbn 
  obtain ⟨x0, x1, x2, x3, x4, x5, xf⟩ := cells6 hP1
  rw [k0]
  go_wp2_with fail
  clear x0 x1 x2 x3 x4 x5 xf
  refine (ris_any _ _ _ _ _ _ _ _ _ _ _ h (hT.keep hbw1) M.kCall (by decide) (by decide)).mono ?_
  rintro e w2 ⟨rfl, hb⟩
  have hP2 := kept hb hP1
  have hQ2 := kept hb hQ1
  have hR2 := kept hb hR1
  have hbw2 := hbw1.trans (hb.mono hbw1.size)
  clear hb hP1 hQ1 hR1
  obtain ⟨x0, x1, x2, x3, x4, x5, xf⟩ := cells6 hP2
  rw [k1]
  go_wp2_with fail
  clear x0 x1 x2 x3 x4 x5 xf
  refine (ris_any _ _ _ _ _ _ _ _ _ _ _ h (hT.keep hbw2) M.kNew (by decide) (by decide)).mono ?_
  rintro e w3 ⟨rfl, hb⟩
  have hP3 := kept hb hP2
  have hQ3 := kept hb hQ2
  have hR3 := kept hb hR2
  have hbw3 := hbw2.trans (hb.mono hbw2.size)
  clear hb hP2 hQ2 hR2
  obtain ⟨x0, x1, x2, x3, x4, x5, xf⟩ := cells6 hP3
  rw [k2]
  go_wp2_with fail
  clear x0 x1 x2 x3 x4 x5 xf
  refine (rneed_any _ _ _ _ _ _ _ _ _ _ _ h (hT.keep hbw3) M.kNew (by decide) (by decide)).mono ?_
  rintro e w4 ⟨hb, i4, c4, y4, rfl, h4⟩
  have hP4 := kept hb hP3
  have hQ4 := kept hb hQ3
  have hR4 := kept hb hR3
  have hbw4 := hbw3.trans (hb.mono hbw3.size)
  clear hb hP3 hQ3 hR3
  have hl4 : w.heap.size + 1 + 1 < w4.heap.size := hlt_ hR4
  go_wp2_with fail
  refine (robject_any _ _ _ _ _ _ _ _ _ _ _ h4 (hT.keep hbw4) hfew).mono ?_
  rintro e w5 ⟨hb, i5, c5, y5, v, x, rfl, h5, ⟨va, vp, rfl, hA, hPr⟩, hx⟩
  have hP5 := kept hb hP4
  have hQ5 := kept hb hQ4
  have hR5 := kept hb hR4
  have hbw5 := hbw4.trans (hb.mono hbw4.size)
  clear hb hP4 hQ4 hR4
  obtain ⟨q0, q1, q2, q3, q4, q5, qf⟩ := cells6 hQ5
  obtain ⟨z0, z1, z2, z3, z4, z5, z6, z7, zf, zz⟩ := cells8 hR5
  obtain ⟨av, cv, rfl⟩ := SlAt.form hA
  obtain ⟨ap, cp, rfl⟩ := SlAt.form hPr
  have e0 : w.heap.size < w5.heap.size := by omega
  have e1 : w.heap.size + 1 < w5.heap.size := by omega
  go_wp2_with fail
  refine bodyPost_ret (v := .tuple #[.agg #[.slice a ts.length cap, .int .i64 (i5 : Nat), .int .i64 fin, .int .i64 (n : Nat), .int .i64 c5, .int .i64 y5], .agg #[.int .i64 x.op, .string ⟨#[]⟩, .string x.y, .string x.p, .slice av x.a.length cv, .slice ap x.pr.length cp, .slice none 0 0, .slice none 0 0]]) (by simp [results, Tryz.results92, go_sem, q0, q1, q2, q3, q4, q5, z0, z1, z2, z3, z4, z5, z6, z7, e0, e1, zz]) rfl ⟨?_, i5, c5, y5, _, x, rfl, by rw [HV.out]; exact h5, ⟨_, _, rfl, ?_, ?_⟩, fun S' x e => by rw [HV.out] at e; exact hx _ _ e⟩
  · repeat (first | with_reducible exact hbw5 | with_reducible refine Below.setCell ?_ (by first | (simp; done) | (simp; omega)) _ | with_reducible refine Below.drew ?_ | with_reducible refine Below.alloc ?_ (by first | (simp; done) | (simp; omega)) _)
  · refine ((SlAt.weak hA (Y := fun b => b < w.heap.size + 1 + 1 + 1) fun b _ hx hy => hx (by show b < _; omega)).keep ?_).weak fun b _ hx hy => hx (by have : b < w.heap.size := hy; omega)
    repeat (first | with_reducible exact keep_self | with_reducible refine keep_drew ?_ | with_reducible refine keep_alloc ?_ | with_reducible refine keep_setc ?_ (by first | (simp; done) | (simp; omega)))
  · refine ((SlAt.weak hPr (Y := fun b => b < w.heap.size + 1 + 1 + 1) fun b _ hx hy => hx (by show b < _; omega)).keep ?_).weak fun b _ hx hy => hx (by have : b < w.heap.size := hy; omega)
    repeat (first | with_reducible exact keep_self | with_reducible refine keep_drew ?_ | with_reducible refine keep_alloc ?_ | with_reducible refine keep_setc ?_ (by first | (simp; done) | (simp; omega)))
end Go.Proofs.YtkpmpnebmkeocaaGreatDoor
end
section
namespace Go.Proofs.YtkpmpnebmkeocaaGreatDoor
open Go.RowKit

def sgs : List ByteArray := [M.ch 43, M.ch 45, M.ch 42, M.ch 60, M.ch 61]
theorem sgs_ok : ∀ j (h : j < 5), (sgs[j]'h ≠ M.em ∧ M.numB (sgs[j]'h).data.toList = false) ∧ ¬ sgs[j]'h = M.ch 46 ∧ ¬ sgs[j]'h = M.ch 40
  | 0, _ => (by decide : (M.ch 43 ≠ M.em ∧ M.numB (M.ch 43).data.toList = false) ∧ ¬ M.ch 43 = M.ch 46 ∧ ¬ M.ch 43 = M.ch 40)
  | 1, _ => (by decide : (M.ch 45 ≠ M.em ∧ M.numB (M.ch 45).data.toList = false) ∧ ¬ M.ch 45 = M.ch 46 ∧ ¬ M.ch 45 = M.ch 40)
  | 2, _ => (by decide : (M.ch 42 ≠ M.em ∧ M.numB (M.ch 42).data.toList = false) ∧ ¬ M.ch 42 = M.ch 46 ∧ ¬ M.ch 42 = M.ch 40)
  | 3, _ => (by decide : (M.ch 60 ≠ M.em ∧ M.numB (M.ch 60).data.toList = false) ∧ ¬ M.ch 60 = M.ch 46 ∧ ¬ M.ch 60 = M.ch 40)
  | 4, _ => (by decide : (M.ch 61 ≠ M.em ∧ M.numB (M.ch 61).data.toList = false) ∧ ¬ M.ch 61 = M.ch 46 ∧ ¬ M.ch 61 = M.ch 40)
  | j + 5, h => by omega
theorem sgs_cells {w : World} {g : Nat} {T : TypeId} (h : w.heap[g]? = some (.cells #[.string ⟨#[43]⟩, .string ⟨#[45]⟩, .string ⟨#[42]⟩, .string ⟨#[60]⟩, .string ⟨#[61]⟩] T (0, 0))) : ∀ j (hj : j < 5), w.cell? ⟨g, j, none⟩ = some (.string (sgs[j]'hj)) := by
  intro j hj
  have h' : w.heap[g]? = some (.cells (sgs.map Value.string).toArray T (0, 0)) := h
  rw [Lib.cell_of_heap h']
  simp only [List.getElem?_toArray, List.getElem?_map]
  rw [List.getElem?_eq_getElem (l := sgs) hj]; rfl
theorem arith_of {S : M.St} : ∀ j (h : j < 5), S.at (sgs[j]'h) = true → S.atArith = true ∧ S.now.t = sgs[j]'h := by
  intro j h hs
  refine ⟨?_, of_decide_eq_true hs⟩
  unfold M.St.atArith
  match j, h, hs with
  | 0, _, hs => rw [show S.at (M.ch 43) = true from hs]; rfl
  | 1, _, hs => rw [show S.at (M.ch 45) = true from hs]; simp
  | 2, _, hs => rw [show S.at (M.ch 42) = true from hs]; simp
  | 3, _, hs => rw [show S.at (M.ch 60) = true from hs]; simp
  | 4, _, hs => rw [show S.at (M.ch 61) = true from hs]; simp
  | j + 5, h, _ => omega
theorem arith_no {S : M.St} (h : ∀ j (h : j < 5), S.at (sgs[j]'h) = false) : S.atArith = false := by
  unfold M.St.atArith
  rw [show S.at (M.ch 43) = false from h 0 (by omega), show S.at (M.ch 45) = false from h 1 (by omega), show S.at (M.ch 42) = false from h 2 (by omega), show S.at (M.ch 60) = false from h 3 (by omega), show S.at (M.ch 61) = false from h 4 (by omega)]; rfl
theorem val_sign {r : RSt} {o : M.Opd} (j : Nat) (hj : j < 5) (h : isR r (sgs[j]'hj) = true) :
    bindR r (fun S => M.value2 S o) = bindR (needR r (sgs[j]'hj)) fun S => M.bnd (M.operand S) fun S2 b => .ok (S2, ⟨1, M.em, sgs[j]'hj, [o, b], []⟩) := by
  obtain ⟨S, rfl⟩ := isR_ok h
  rw [needR_yes h]
  have h' : S.at (sgs[j]'hj) = true := h
  obtain ⟨ha, ht⟩ := arith_of j hj h'
  have hd := at_two h' (sgs_ok j hj).2.1
  have hb := at_two h' (sgs_ok j hj).2.2
  simp [bindR, M.value2, ha, hd, hb, ht]
theorem val_app {r : RSt} {o : M.Opd} (hk : o.k = 4) (h : isR r (M.ch 40) = true) :
    bindR r (fun S => M.value2 S o) = bindR r fun S => M.bnd (M.operands S) fun S2 l => .ok (S2, ⟨6, o.s, M.em, l, []⟩) := by
  obtain ⟨S, rfl⟩ := isR_ok h
  have h' : S.at (M.ch 40) = true := h
  have hd := at_two h' (show ¬ M.ch 40 = M.ch 46 by decide)
  simp [bindR, M.value2, hk, hd, h']
theorem val_get {r : RSt} {o : M.Opd} (hk : o.k = 4) (h : isR r (M.ch 46) = true) :
    bindR r (fun S => M.value2 S o) = bindR (needR r (M.ch 46)) fun S => M.bnd (M.name S) fun S2 n => .ok (S2, ⟨2, o.s, n, [], []⟩) := by
  obtain ⟨S, rfl⟩ := isR_ok h
  rw [needR_yes h]
  have h' : S.at (M.ch 46) = true := h
  simp [bindR, M.value2, hk, h']
theorem val_move {r : RSt} {o : M.Opd} (hno : ∀ j (h : j < 5), isR r (sgs[j]'h) = false) (h : ¬ o.k = 4 ∨ (isR r (M.ch 40) = false ∧ isR r (M.ch 46) = false)) :
    bindR r (fun S => M.value2 S o) = bindR r fun S => .ok (S, ⟨0, M.em, M.em, [o], []⟩) := by
  cases r with
  | error f => rfl
  | ok S =>
    have ha := arith_no (S := S) fun j h => hno j h
    rcases h with h | ⟨h1, h2⟩
    · simp [bindR, M.value2, h, ha]
    · have h1' : S.at (M.ch 40) = false := h1
      have h2' : S.at (M.ch 46) = false := h2
      simp [bindR, M.value2, h1', h2', ha]
theorem ops2_new {W w : World} {o b : M.Opd} {k : Nat} (hk : W.heap.size = k) (hr : ¬ k < w.heap.size) : OpsAt (W.alloc (.cells #[.int .i64 o.k, .int .i64 o.n, .string o.s, .int .i64 b.k, .int .i64 b.n, .string b.s] 47)) (Old w) (.slice (some ⟨k, 0, none⟩) 2 2) [o, b] :=
  slAt_newAt W (Old w) 47 k 2 2 [.int .i64 o.k, .int .i64 o.n, .string o.s, .int .i64 b.k, .int .i64 b.n, .string b.s] _ hk hr (by omega) rfl
theorem ops2_drew {W w : World} {o b : M.Opd} {k : Nat} (hk : W.heap.size = k) (hr : ¬ k < w.heap.size) : OpsAt (W.alloc (.cells #[.int .i64 o.k, .int .i64 o.n, .string o.s, .int .i64 b.k, .int .i64 b.n, .string b.s] 47)).drew (Old w) (.slice (some ⟨k, 0, none⟩) 2 2) [o, b] := ops2_new hk hr
theorem ops1_new {W w : World} {o : M.Opd} {k : Nat} (hk : W.heap.size = k) (hr : ¬ k < w.heap.size) : OpsAt (W.alloc (.cells #[.int .i64 o.k, .int .i64 o.n, .string o.s] 47)) (Old w) (.slice (some ⟨k, 0, none⟩) 1 1) [o] :=
  slAt_newAt W (Old w) 47 k 1 1 [.int .i64 o.k, .int .i64 o.n, .string o.s] _ hk hr (by omega) rfl
theorem ops1_drew {W w : World} {o : M.Opd} {k : Nat} (hk : W.heap.size = k) (hr : ¬ k < w.heap.size) : OpsAt (W.alloc (.cells #[.int .i64 o.k, .int .i64 o.n, .string o.s] 47)).drew (Old w) (.slice (some ⟨k, 0, none⟩) 1 1) [o] := ops1_new hk hr
theorem blt {W w1 : World} (hb : Below W.heap.size W w1) : ∀ b, b < W.heap.size → b < w1.heap.size := fun _ h => Nat.lt_of_lt_of_le h hb.size
theorem mv_end {α : Type} (q : RSt) (x : α) : stR (bindR q fun S => .ok (S, x)) = q ∧ ∀ S' b, (bindR q fun S => .ok (S, x)) = .ok (S', b) → x = b := by
  cases q with
  | error e => exact ⟨rfl, fun _ _ h => by cases h⟩
  | ok S => exact ⟨rfl, fun _ _ h => by cases h; rfl⟩

structure VlIn (a : Option Addr) (cap : Nat) (ts : List M.Tok) (fin : Int) (n : Nat) (w w4 wr : World) (i : Nat) (c y : Int) (o : M.Opd) : Prop where
  res : wr.heap[w.heap.size + 1]? = some (.cells #[.slice none 0 0, .int .i64 0, .int .i64 0, .int .i64 0, .int .i64 0, .int .i64 0] 81 (0, 0))
  res8 : wr.heap[w.heap.size + 1 + 1]? = some (.cells #[.int .i64 0, .string ⟨#[]⟩, .string ⟨#[]⟩, .string ⟨#[]⟩, .slice none 0 0, .slice none 0 0, .slice none 0 0, .slice none 0 0] 32 (0, 0))
  st : wr.heap[w4.heap.size]? = some (.cells #[.slice a ts.length cap, .int .i64 (i : Nat), .int .i64 fin, .int .i64 (n : Nat), .int .i64 c, .int .i64 y] 81 (0, 0))
  op : wr.heap[w4.heap.size + 1]? = some (.cells #[.int .i64 o.k, .int .i64 o.n, .string o.s] 47 (0, 0))
  sg : wr.heap[w4.heap.size + 1 + 1]? = some (.cells #[.string ⟨#[43]⟩, .string ⟨#[45]⟩, .string ⟨#[42]⟩, .string ⟨#[60]⟩, .string ⟨#[61]⟩] 9 (0, 0))
  bel : Below w.heap.size w wr

set_option maxRecDepth 8000 in
set_option maxHeartbeats 8000000 in
theorem rvalue_op (a : Option Addr) (cap : Nat) (ts : List M.Tok) (fin : Int) (d : Nat) (r : RSt) (i n : Nat) (c y : Int) (w : World) (h : RS ts fin d r i n c y) (hT : TokAt w (.slice a ts.length cap) ts) (hfew : ts.length ≤ 4398046511000) (k0 : isR r M.kIn = false) (k1 : isR r M.kCall = false) (k2 : isR r M.kNew = false) :
    Calls Tryz.prog 92 #[.agg #[.slice a ts.length cap, .int .i64 (i : Nat), .int .i64 fin, .int .i64 (n : Nat), .int .i64 c, .int .i64 y]] w fun e w' => Below w.heap.size w w' ∧ ∃ (i' : Nat) (c' y' : Int) (v : Value) (x : M.Val), e = .returned (.tuple #[.agg #[.slice a ts.length cap, .int .i64 (i' : Nat), .int .i64 fin, .int .i64 (n : Nat), .int .i64 c', .int .i64 y'], v]) ∧ RS ts fin d (stR (valueR r)) i' n c' y' ∧ valEnc w x v w' ∧ ∀ S' x', valueR r = .ok (S', x') → x = x' := by
  have hi := h.lt
  have hn2 := h.lim
  have HV0 := hid (val_op k0 k1 k2)
  have hbw0 := Below.refl w.heap.size w
  go_enter Tryz.func92, Tryz.ntmps92
  go_wp2_with fail
  refine (ris_any _ _ _ _ _ _ _ _ _ _ _ h (hT.keep (below_three _ _ _)) M.kIn (by decide) (by decide)).mono ?_
  rintro e w1 ⟨rfl, hb⟩
  obtain ⟨hP1, hQ1, hR1, hbn⟩ := three_newp hb
  clear hb
  have hbw1 := hbw0.trans (hbn.mono hbw0.size)
  clear hbn 
  obtain ⟨x0, x1, x2, x3, x4, x5, xf⟩ := cells6 hP1
  rw [k0]
  go_wp2_with fail
  clear x0 x1 x2 x3 x4 x5 xf
  refine (ris_any _ _ _ _ _ _ _ _ _ _ _ h (hT.keep hbw1) M.kCall (by decide) (by decide)).mono ?_
  rintro e w2 ⟨rfl, hb⟩
  have hP2 := kept hb hP1
  have hQ2 := kept hb hQ1
  have hR2 := kept hb hR1
  have hbw2 := hbw1.trans (hb.mono hbw1.size)
  clear hb hP1 hQ1 hR1
  obtain ⟨x0, x1, x2, x3, x4, x5, xf⟩ := cells6 hP2
  rw [k1]
  go_wp2_with fail
  clear x0 x1 x2 x3 x4 x5 xf
  refine (ris_any _ _ _ _ _ _ _ _ _ _ _ h (hT.keep hbw2) M.kNew (by decide) (by decide)).mono ?_
  rintro e w3 ⟨rfl, hb⟩
  have hP3 := kept hb hP2
  have hQ3 := kept hb hQ2
  have hR3 := kept hb hR2
  have hbw3 := hbw2.trans (hb.mono hbw2.size)
  clear hb hP2 hQ2 hR2
  obtain ⟨x0, x1, x2, x3, x4, x5, xf⟩ := cells6 hP3
  rw [k2]
  go_wp2_with fail
  clear x0 x1 x2 x3 x4 x5 xf
  refine (roperand_any _ _ _ _ _ _ _ _ _ _ _ h (hT.keep hbw3)).mono ?_
  rintro e w4 ⟨hb, i4, c4, y4, o, rfl, h4, ho⟩
  have hP4 := kept hb hP3
  have hQ4 := kept hb hQ3
  have hR4 := kept hb hR3
  have hbw4 := hbw3.trans (hb.mono hbw3.size)
  clear hb hP3 hQ3 hR3
  have HV : Hid (valueR r = bindR (stR (operandR r)) fun S => M.value2 S o) := by
    unfold Hid; rw [HV0.out]; exact bind_st r M.operand M.value2 o ho
  clear HV0 ho
  generalize stR (operandR r) = r1 at h4 HV
  have hl4 : w.heap.size + 1 + 1 < w4.heap.size := hlt_ hR4
  obtain ⟨hX, hO, hG, hbn⟩ := three_newp (w := w4) (w1 := (((w4.alloc (.cells #[.slice a ts.length cap, .int .i64 (i4 : Nat), .int .i64 fin, .int .i64 (n : Nat), .int .i64 c4, .int .i64 y4] 81)).alloc (.cells #[.int .i64 o.k, .int .i64 o.n, .string o.s] 47)).alloc (.cells #[.string ⟨#[43]⟩, .string ⟨#[45]⟩, .string ⟨#[42]⟩, .string ⟨#[60]⟩, .string ⟨#[61]⟩] 9))) (Below.refl _ _)
  have hQ5 := kept hbn hQ4
  have hR5 := kept hbn hR4
  have hbw5 := hbw4.trans (hbn.mono hbw4.size)
  go_wp2_with fail
  go_loopg [11] 5 (fun k v wr => ∃ j : Nat, v = .int .i64 j ∧ j + k = 5 ∧ VlIn a cap ts fin n w w4 wr i4 c4 y4 o ∧ Hid (∀ q (h : q < 5), q < j → isR r1 (sgs[q]'h) = false))
  case atStart => exact ⟨0, rfl, rfl, ⟨hQ5, hR5, hX, hO, hG, hbw5⟩, fun q _ h => by omega⟩
  case round =>
    obtain ⟨j, rfl, hjk, ⟨hQ6, hR6, hX6, hO6, hG6, hbw6⟩, HN⟩ := hrel
    clear hQ5 hR5 hbw5 hX hO hG hbn hP4 hQ4 hR4
    by_cases hlt : j < 5
    · have hgj := sgs_cells hG6 j hlt
      have hji : (j : Int) < 5 := by omega
      have hji0 : (0 : Int) ≤ (j : Int) := by omega
      obtain ⟨⟨hne, hnu⟩, _⟩ := sgs_ok j hlt
      have hcall : Calls Tryz.prog 72 #[.agg #[.slice a ts.length cap, .int .i64 (i4 : Nat), .int .i64 fin, .int .i64 (n : Nat), .int .i64 c4, .int .i64 y4], .string (sgs[j]'hlt)] wr.drew fun e w' => e = .returned (.bool (isR r1 (sgs[j]'hlt))) ∧ Below wr.heap.size wr w' := (ris_any _ _ _ _ _ _ _ _ _ _ _ h4 (hT.keep hbw6.drew) _ hne hnu).mono fun e w' ⟨q1, q2⟩ => ⟨q1, undrew q2⟩
      have KS : ∀ W, Below wr.heap.size wr W → (W.heap[w4.heap.size]? = some (.cells #[.slice a ts.length cap, .int .i64 (i4 : Nat), .int .i64 fin, .int .i64 (n : Nat), .int .i64 c4, .int .i64 y4] 81 (0, 0)) ∧ W.cell? ⟨w4.heap.size + 1 + 1, j, none⟩ = some (.string (sgs[j]'hlt))) := fun W hb => ⟨kept hb hX6, (hb.cell (p := ⟨w4.heap.size + 1 + 1, j, none⟩) (hlt_ hG6)).trans hgj⟩
      generalize htx : sgs[j]'hlt = tx at hne hnu hcall KS hgj
      have HTX := hid htx.symm
      clear htx
      obtain ⟨x0, x1, x2, x3, x4, x5, xf⟩ := cells6 hX6
      have KT : ∀ W, Below wr.heap.size wr W → W.cell? ⟨w4.heap.size, 0, none⟩ = some (.slice a ts.length cap) ∧ W.cell? ⟨w4.heap.size, 1, none⟩ = some (.int .i64 (i4 : Nat)) ∧ W.cell? ⟨w4.heap.size, 2, none⟩ = some (.int .i64 fin) ∧ W.cell? ⟨w4.heap.size, 3, none⟩ = some (.int .i64 (n : Nat)) ∧ W.cell? ⟨w4.heap.size, 4, none⟩ = some (.int .i64 c4) ∧ W.cell? ⟨w4.heap.size, 5, none⟩ = some (.int .i64 y4) ∧ W.cell? ⟨w4.heap.size + 1 + 1, j, none⟩ = some (.string tx) := fun W hb => by
        obtain ⟨q1, q2⟩ := KS W hb
        obtain ⟨u0, u1, u2, u3, u4, u5, uf⟩ := cells6 q1
        exact ⟨u0, u1, u2, u3, u4, u5, q2⟩
      have KH := hid KT
      clear KT KS
      go_wp2_with fail
      go_region_held3 (fun w' => w'.cell? ⟨w4.heap.size, 0, none⟩ = some (.slice a ts.length cap) ∧ w'.cell? ⟨w4.heap.size, 1, none⟩ = some (.int .i64 (i4 : Nat)) ∧ w'.cell? ⟨w4.heap.size, 2, none⟩ = some (.int .i64 fin) ∧ w'.cell? ⟨w4.heap.size, 3, none⟩ = some (.int .i64 (n : Nat)) ∧ w'.cell? ⟨w4.heap.size, 4, none⟩ = some (.int .i64 c4) ∧ w'.cell? ⟨w4.heap.size, 5, none⟩ = some (.int .i64 y4) ∧ w'.cell? ⟨w4.heap.size + 1 + 1, j, none⟩ = some (.string tx)) (first | exact KH.out _ (Below.refl _ _) | exact KH.out _ (Below.refl _ _).drew | exact KH.out _ hb7 | go_keep) (first | (go_at_call 72; refine hcall.mono ?_; rintro e w7 ⟨rfl, hb7⟩))
      · have hQ7 := kept hb7 hQ6
        have hR7 := kept hb7 hR6
        have hX7 := kept hb7 hX6
        have hO7 := kept hb7 hO6
        have hG7 := kept hb7 hG6
        have hbw7 := hbw6.trans (hb7.mono hbw6.size)
        have hgj7 := (KH.out _ hb7).2.2.2.2.2.2
        clear hQ6 hR6 hX6 hO6 hG6 hgj hcall KH x0 x1 x2 x3 x4 x5 xf
        cases hk : isR r1 tx
        · have HN2 : Hid (∀ q (h : q < 5), q < j + 1 → isR r1 (sgs[q]'h) = false) := fun q h hq => by
            by_cases e : q = j
            · subst e; rw [← HTX.out]; exact hk
            · exact HN.out q h (by omega)
          clear HN
          cases gk with
          | zero => omega
          | succ gk =>
            go_wp2_with fail
            go_roundg gk
            case measure => omega
            case rel => exact ⟨j + 1, by go_num, by omega, ⟨hQ7, hR7, hX7, hO7, hG7, hbw7⟩, HN2⟩
        · have HV2 : Hid (valueR r = bindR (needR r1 tx) fun S => M.bnd (M.operand S) fun S2 b => .ok (S2, ⟨1, M.em, tx, [o, b], []⟩)) := by
            unfold Hid; rw [HV.out]; have := val_sign (r := r1) (o := o) j hlt (by rw [← HTX.out]; exact hk); rw [← HTX.out] at this; exact this
          clear HV HN
          go_wp2_with fail
          obtain ⟨x0, x1, x2, x3, x4, x5, xf⟩ := cells6 hX7
          have KT : ∀ W, Below w7.heap.size w7 W → W.cell? ⟨w4.heap.size, 0, none⟩ = some (.slice a ts.length cap) ∧ W.cell? ⟨w4.heap.size, 1, none⟩ = some (.int .i64 (i4 : Nat)) ∧ W.cell? ⟨w4.heap.size, 2, none⟩ = some (.int .i64 fin) ∧ W.cell? ⟨w4.heap.size, 3, none⟩ = some (.int .i64 (n : Nat)) ∧ W.cell? ⟨w4.heap.size, 4, none⟩ = some (.int .i64 c4) ∧ W.cell? ⟨w4.heap.size, 5, none⟩ = some (.int .i64 y4) ∧ W.cell? ⟨w4.heap.size + 1 + 1, j, none⟩ = some (.string tx) := fun W hb => by
            obtain ⟨u0, u1, u2, u3, u4, u5, uf⟩ := cells6 (kept hb hX7)
            exact ⟨u0, u1, u2, u3, u4, u5, (hb.cell (p := ⟨w4.heap.size + 1 + 1, j, none⟩) (hlt_ hG7)).trans hgj7⟩
          have KH := hid KT
          clear KT
          have NEED : Hid (∀ W, Below w7.heap.size w7 W → Calls Tryz.prog 55 #[.agg #[.slice a ts.length cap, .int .i64 (i4 : Nat), .int .i64 fin, .int .i64 (n : Nat), .int .i64 c4, .int .i64 y4], .string tx] W fun e w' => Below W.heap.size W w' ∧ Below w7.heap.size w7 w' ∧ ∃ (i' : Nat) (c' y' : Int), e = .returned (.agg #[.slice a ts.length cap, .int .i64 (i' : Nat), .int .i64 fin, .int .i64 (n : Nat), .int .i64 c', .int .i64 y']) ∧ RS ts fin d (needR r1 tx) i' n c' y') := fun W hb => (rneed_any _ _ _ _ _ _ _ _ _ _ _ h4 (hT.keep (hbw7.trans (hb.mono hbw7.size))) tx hne hnu).mono fun e w' ⟨q1, q2⟩ => ⟨q1, hb.trans (q1.mono hb.size), q2⟩
          have OPER : Hid (∀ W (i6 : Nat) (c6 y6 : Int), Below w7.heap.size w7 W → RS ts fin d (needR r1 tx) i6 n c6 y6 → Calls Tryz.prog 91 #[.agg #[.slice a ts.length cap, .int .i64 (i6 : Nat), .int .i64 fin, .int .i64 (n : Nat), .int .i64 c6, .int .i64 y6]] W fun e w' => Below W.heap.size W w' ∧ Below w7.heap.size w7 w' ∧ ∃ (i' : Nat) (c' y' : Int) (b : M.Opd), e = .returned (.tuple #[.agg #[.slice a ts.length cap, .int .i64 (i' : Nat), .int .i64 fin, .int .i64 (n : Nat), .int .i64 c', .int .i64 y'], .agg #[.int .i64 b.k, .int .i64 b.n, .string b.s]]) ∧ RS ts fin d (stR (operandR (needR r1 tx))) i' n c' y' ∧ Hid (∀ S' x, operandR (needR r1 tx) = .ok (S', x) → b = x)) := fun W i6 c6 y6 hb h6 => (roperand_any _ _ _ _ _ _ _ _ _ _ _ h6 (hT.keep (hbw7.trans (hb.mono hbw7.size)))).mono fun e w' ⟨q1, q2⟩ => ⟨q1, hb.trans (q1.mono hb.size), q2⟩
          go_cut [12, 13] (fun s12 s13 wx => ∃ (g12 g13 : Nat) (i9 : Nat) (c9 y9 : Int) (b : M.Opd), s12 = .pointer (some ⟨g12, 0, none⟩) ∧ s13 = .pointer (some ⟨g13, 0, none⟩) ∧ Below w7.heap.size w7 wx ∧ RS ts fin d (stR (operandR (needR r1 tx))) i9 n c9 y9 ∧ Hid (∀ S' x, operandR (needR r1 tx) = .ok (S', x) → b = x) ∧ wx.cell? ⟨g12, 0, none⟩ = some (.slice a ts.length cap) ∧ wx.cell? ⟨g12, 1, none⟩ = some (.int .i64 (i9 : Nat)) ∧ wx.cell? ⟨g12, 2, none⟩ = some (.int .i64 fin) ∧ wx.cell? ⟨g12, 3, none⟩ = some (.int .i64 (n : Nat)) ∧ wx.cell? ⟨g12, 4, none⟩ = some (.int .i64 c9) ∧ wx.cell? ⟨g12, 5, none⟩ = some (.int .i64 y9) ∧ wx.cell? ⟨g13, 0, none⟩ = some (.int .i64 b.k) ∧ wx.cell? ⟨g13, 1, none⟩ = some (.int .i64 b.n) ∧ wx.cell? ⟨g13, 2, none⟩ = some (.string b.s) ∧ w7.heap.size ≤ g12 ∧ w7.heap.size ≤ g13)
          case first =>
            clear x0 x1 x2 x3 x4 x5 xf hQ7 hR7 hX7 hO7 hG7 hgj7 hbw7 hbw6 hb7 h4 HV2 hT hfew hi hn2 hne hnu hk HTX hl4 hbw0 hbw1 hbw2 hbw3 hbw4 hjk h
            refine wp_region_noPanic ?_
            refine wp_region_held_drew (S := (fun w' => w'.cell? ⟨w4.heap.size, 0, none⟩ = some (.slice a ts.length cap) ∧ w'.cell? ⟨w4.heap.size, 1, none⟩ = some (.int .i64 (i4 : Nat)) ∧ w'.cell? ⟨w4.heap.size, 2, none⟩ = some (.int .i64 fin) ∧ w'.cell? ⟨w4.heap.size, 3, none⟩ = some (.int .i64 (n : Nat)) ∧ w'.cell? ⟨w4.heap.size, 4, none⟩ = some (.int .i64 c4) ∧ w'.cell? ⟨w4.heap.size, 5, none⟩ = some (.int .i64 y4) ∧ w'.cell? ⟨w4.heap.size + 1 + 1, j, none⟩ = some (.string tx))) (by kernel_rfl) ?_ (fun hHeld => ?_)
            · exact KH.out _ (Below.refl _ _).drew
            refine wpAnyH_take (i := 0) (oi := _) (v := .agg #[.slice a ts.length cap, .int .i64 (i4 : Nat), .int .i64 fin, .int .i64 (n : Nat), .int .i64 c4, .int .i64 y4]) rfl (by kernel_rfl) (by kernel_rfl) (by kernel_rfl) (fun _ _ _ h => h) (Or.inl ⟨by rfl, ?_⟩) hHeld ?_
            · intro w hSw
              try dsimp only at hSw
              go_simp
            simp only [Act.put, List.setIfInBounds_toArray, List.set_cons_zero, List.set_cons_succ]
            refine wpAnyH_take (i := 1) (oi := _) (v := .slice (some ⟨w4.heap.size + 1 + 1, 0, none⟩) 5 5) rfl (by kernel_rfl) (by kernel_rfl) (by kernel_rfl) (fun _ _ _ h => h) (Or.inl ⟨by rfl, ?_⟩) hHeld ?_
            · intro w hSw
              try dsimp only at hSw
              go_simp
            simp only [Act.put, List.setIfInBounds_toArray, List.set_cons_zero, List.set_cons_succ]
            refine wpAnyH_take (i := 2) (oi := _) (v := .int .i64 j) rfl (by kernel_rfl) (by kernel_rfl) (by kernel_rfl) (fun _ _ _ h => h) (Or.inl ⟨by rfl, ?_⟩) hHeld ?_
            · intro w hSw
              try dsimp only at hSw
              go_simp
            simp only [Act.put, List.setIfInBounds_toArray, List.set_cons_zero, List.set_cons_succ]
            refine wpAnyH_take (i := 3) (oi := _) (v := .pointer (some ⟨w4.heap.size + 1 + 1, j, none⟩)) rfl (by kernel_rfl) (by kernel_rfl) (by kernel_rfl) (fun _ _ _ h => h) (Or.inl ⟨by rfl, ?_⟩) hHeld ?_
            · intro w hSw
              try dsimp only at hSw
              go_simp
            simp only [Act.put, List.setIfInBounds_toArray, List.set_cons_zero, List.set_cons_succ]
            refine wpAnyH_take (i := 4) (oi := _) (v := .string tx) rfl (by kernel_rfl) (by kernel_rfl) (by kernel_rfl) (fun _ _ _ h => h) (Or.inl ⟨by rfl, ?_⟩) hHeld ?_
            · intro w hSw
              try dsimp only at hSw
              go_simp
            simp only [Act.put, List.setIfInBounds_toArray, List.set_cons_zero, List.set_cons_succ]
            refine wpAnyH_ready (rs := [5, 10, 11]) (by kernel_rfl) (by simp) ?_
            refine AllReadyH.cons rfl (fun K hK => ?_) (AllReadyH.cons rfl (fun K hK => ?_) (AllReadyH.cons rfl (fun K hK => ?_) AllReadyH.nil))
            · go_simp
              refine (NEED.out _ (by repeat (first | with_reducible exact Below.refl _ _ | with_reducible exact B9 | with_reducible exact B8 | with_reducible refine Below.drew ?_ | with_reducible refine Below.alloc ?_ (by first | omega | (simp; done) | (simp; omega)) _ | with_reducible refine Below.setCell ?_ (by first | omega | (simp; done) | (simp; omega)) _))).mono ?_
              rintro e w8 ⟨hb8, B8, i8, c8, y8, rfl, h8⟩
              have hs8 := B8.size
              have hn := (undrew hb8)
              have hz8 := hn.size
              clear hn hb8
              go_wp2_with fail
              refine hK.out _ _ ?_ (fun hHeld => ?_)
              · exact KH.out _ (by repeat (first | with_reducible exact Below.refl _ _ | with_reducible exact B9 | with_reducible exact B8 | with_reducible refine Below.drew ?_ | with_reducible refine Below.alloc ?_ (by first | omega | (simp; done) | (simp; omega)) _ | with_reducible refine Below.setCell ?_ (by first | omega | (simp; done) | (simp; omega)) _))
              clear hK K
              try simp only [Act.put, List.setIfInBounds_toArray, List.set_cons_zero, List.set_cons_succ]
              refine wpAnyH_ready (rs := [6, 10, 11]) (by kernel_rfl) (by simp) ?_
              refine AllReadyH.cons rfl (fun K hK => ?_) (AllReadyH.cons rfl (fun K hK => ?_) (AllReadyH.cons rfl (fun K hK => ?_) AllReadyH.nil))
              · go_simp
                refine (OPER.out _ _ _ _ (by repeat (first | with_reducible exact Below.refl _ _ | with_reducible exact B9 | with_reducible exact B8 | with_reducible refine Below.drew ?_ | with_reducible refine Below.alloc ?_ (by first | omega | (simp; done) | (simp; omega)) _ | with_reducible refine Below.setCell ?_ (by first | omega | (simp; done) | (simp; omega)) _)) h8).mono ?_
                rintro e w9 ⟨hb9, B9, i9, c9, y9, b, rfl, h9, hbb⟩
                have hs9 := B9.size
                have hn := hb9
                have hz9 := hn.size
                clear hn hb9
                go_wp2_with fail
                refine hK.out _ _ ?_ (fun hHeld => ?_)
                · exact KH.out _ (by repeat (first | with_reducible exact Below.refl _ _ | with_reducible exact B9 | with_reducible exact B8 | with_reducible refine Below.drew ?_ | with_reducible refine Below.alloc ?_ (by first | omega | (simp; done) | (simp; omega)) _ | with_reducible refine Below.setCell ?_ (by first | omega | (simp; done) | (simp; omega)) _))
                clear hK K
                try simp only [Act.put, List.setIfInBounds_toArray, List.set_cons_zero, List.set_cons_succ]
                refine wpAnyH_take (i := 7) (oi := _) (v := .tuple #[.agg #[.slice a ts.length cap, .int .i64 (i9 : Nat), .int .i64 fin, .int .i64 (n : Nat), .int .i64 c9, .int .i64 y9], .agg #[.int .i64 b.k, .int .i64 b.n, .string b.s]]) rfl (by kernel_rfl) (by kernel_rfl) (by kernel_rfl) (fun _ _ _ h => h) (Or.inl ⟨by rfl, ?_⟩) hHeld ?_
                · intro w hSw
                  try dsimp only at hSw
                  go_simp
                simp only [Act.put, List.setIfInBounds_toArray, List.set_cons_zero, List.set_cons_succ]
                refine wpAnyH_take (i := 8) (oi := _) (v := .agg #[.slice a ts.length cap, .int .i64 (i9 : Nat), .int .i64 fin, .int .i64 (n : Nat), .int .i64 c9, .int .i64 y9]) rfl (by kernel_rfl) (by kernel_rfl) (by kernel_rfl) (fun _ _ _ h => h) (Or.inl ⟨by rfl, ?_⟩) hHeld ?_
                · intro w hSw
                  try dsimp only at hSw
                  go_simp
                simp only [Act.put, List.setIfInBounds_toArray, List.set_cons_zero, List.set_cons_succ]
                refine wpAnyH_take (i := 9) (oi := _) (v := .agg #[.int .i64 b.k, .int .i64 b.n, .string b.s]) rfl (by kernel_rfl) (by kernel_rfl) (by kernel_rfl) (fun _ _ _ h => h) (Or.inl ⟨by rfl, ?_⟩) hHeld ?_
                · intro w hSw
                  try dsimp only at hSw
                  go_simp
                simp only [Act.put, List.setIfInBounds_toArray, List.set_cons_zero, List.set_cons_succ]
                refine wpAnyH_ready (rs := [10, 11]) (by kernel_rfl) (by simp) ?_
                refine AllReadyH.cons rfl (fun K hK => ?_) (AllReadyH.cons rfl (fun K hK => ?_) AllReadyH.nil)
                · go_simp
                  refine hK.out _ _ ?_ (fun hHeld => ?_)
                  · exact KH.out _ (by repeat (first | with_reducible exact Below.refl _ _ | with_reducible exact B9 | with_reducible exact B8 | with_reducible refine Below.drew ?_ | with_reducible refine Below.alloc ?_ (by first | omega | (simp; done) | (simp; omega)) _ | with_reducible refine Below.setCell ?_ (by first | omega | (simp; done) | (simp; omega)) _))
                  clear hK K
                  try simp only [Act.put, List.setIfInBounds_toArray, List.set_cons_zero, List.set_cons_succ]
                  refine wpAnyH_ready (rs := [11]) (by kernel_rfl) (by simp) ?_
                  refine AllReadyH.cons rfl (fun K hK => ?_) AllReadyH.nil
                  · go_simp
                    refine hK.out _ _ ?_ (fun hHeld => ?_)
                    · exact KH.out _ (by repeat (first | with_reducible exact Below.refl _ _ | with_reducible exact B9 | with_reducible exact B8 | with_reducible refine Below.drew ?_ | with_reducible refine Below.alloc ?_ (by first | omega | (simp; done) | (simp; omega)) _ | with_reducible refine Below.setCell ?_ (by first | omega | (simp; done) | (simp; omega)) _))
                    clear hK K
                    try simp only [Act.put, List.setIfInBounds_toArray, List.set_cons_zero, List.set_cons_succ]
                    refine wpAnyH_ready (rs := [12]) (by kernel_rfl) (by simp) ?_
                    refine AllReadyH.cons rfl (fun K hK => ?_) AllReadyH.nil
                    go_simp
                    refine hK.out _ _ ?_ (fun hHeld => ?_)
                    · exact KH.out _ (by repeat (first | with_reducible exact Below.refl _ _ | with_reducible exact B9 | with_reducible exact B8 | with_reducible refine Below.drew ?_ | with_reducible refine Below.alloc ?_ (by first | omega | (simp; done) | (simp; omega)) _ | with_reducible refine Below.setCell ?_ (by first | omega | (simp; done) | (simp; omega)) _))
                    clear hK K
                    try simp only [Act.put, List.setIfInBounds_toArray, List.set_cons_zero, List.set_cons_succ]
                    refine wpAnyH_ready (rs := [13]) (by kernel_rfl) (by simp) ?_
                    refine AllReadyH.cons rfl (fun K hK => ?_) AllReadyH.nil
                    go_simp
                    refine hK.out _ _ ?_ (fun hHeld => ?_)
                    · exact KH.out _ (by repeat (first | with_reducible exact Below.refl _ _ | with_reducible exact B9 | with_reducible exact B8 | with_reducible refine Below.drew ?_ | with_reducible refine Below.alloc ?_ (by first | omega | (simp; done) | (simp; omega)) _ | with_reducible refine Below.setCell ?_ (by first | omega | (simp; done) | (simp; omega)) _))
                    clear hK K
                    try simp only [Act.put, List.setIfInBounds_toArray, List.set_cons_zero, List.set_cons_succ]
                    refine wpAnyH_done (by kernel_rfl) (NoPanic.normal ?_) _
                    go_wp2_with fail
                    go_meet
                    case rel =>
                      refine ⟨w9.heap.size, w9.heap.size + 1, i9, c9, y9, b, rfl, rfl, ?_, h9, hbb, ?_, ?_, ?_, ?_, ?_, ?_, ?_, ?_, ?_, ?_, ?_⟩
                      · repeat (first | with_reducible exact Below.refl _ _ | with_reducible exact B9 | with_reducible exact B8 | with_reducible refine Below.drew ?_ | with_reducible refine Below.alloc ?_ (by first | omega | (simp; done) | (simp; omega)) _ | with_reducible refine Below.setCell ?_ (by first | omega | (simp; done) | (simp; omega)) _)
                      all_goals first | omega | go_simp
                · go_simp
                  refine hK.out _ _ ?_ (fun hHeld => ?_)
                  · exact KH.out _ (by repeat (first | with_reducible exact Below.refl _ _ | with_reducible exact B9 | with_reducible exact B8 | with_reducible refine Below.drew ?_ | with_reducible refine Below.alloc ?_ (by first | omega | (simp; done) | (simp; omega)) _ | with_reducible refine Below.setCell ?_ (by first | omega | (simp; done) | (simp; omega)) _))
                  clear hK K
                  try simp only [Act.put, List.setIfInBounds_toArray, List.set_cons_zero, List.set_cons_succ]
                  refine wpAnyH_ready (rs := [10]) (by kernel_rfl) (by simp) ?_
                  refine AllReadyH.cons rfl (fun K hK => ?_) AllReadyH.nil
                  · go_simp
                    refine hK.out _ _ ?_ (fun hHeld => ?_)
                    · exact KH.out _ (by repeat (first | with_reducible exact Below.refl _ _ | with_reducible exact B9 | with_reducible exact B8 | with_reducible refine Below.drew ?_ | with_reducible refine Below.alloc ?_ (by first | omega | (simp; done) | (simp; omega)) _ | with_reducible refine Below.setCell ?_ (by first | omega | (simp; done) | (simp; omega)) _))
                    clear hK K
                    try simp only [Act.put, List.setIfInBounds_toArray, List.set_cons_zero, List.set_cons_succ]
                    refine wpAnyH_ready (rs := [12]) (by kernel_rfl) (by simp) ?_
                    refine AllReadyH.cons rfl (fun K hK => ?_) AllReadyH.nil
                    go_simp
                    refine hK.out _ _ ?_ (fun hHeld => ?_)
                    · exact KH.out _ (by repeat (first | with_reducible exact Below.refl _ _ | with_reducible exact B9 | with_reducible exact B8 | with_reducible refine Below.drew ?_ | with_reducible refine Below.alloc ?_ (by first | omega | (simp; done) | (simp; omega)) _ | with_reducible refine Below.setCell ?_ (by first | omega | (simp; done) | (simp; omega)) _))
                    clear hK K
                    try simp only [Act.put, List.setIfInBounds_toArray, List.set_cons_zero, List.set_cons_succ]
                    refine wpAnyH_ready (rs := [13]) (by kernel_rfl) (by simp) ?_
                    refine AllReadyH.cons rfl (fun K hK => ?_) AllReadyH.nil
                    go_simp
                    refine hK.out _ _ ?_ (fun hHeld => ?_)
                    · exact KH.out _ (by repeat (first | with_reducible exact Below.refl _ _ | with_reducible exact B9 | with_reducible exact B8 | with_reducible refine Below.drew ?_ | with_reducible refine Below.alloc ?_ (by first | omega | (simp; done) | (simp; omega)) _ | with_reducible refine Below.setCell ?_ (by first | omega | (simp; done) | (simp; omega)) _))
                    clear hK K
                    try simp only [Act.put, List.setIfInBounds_toArray, List.set_cons_zero, List.set_cons_succ]
                    refine wpAnyH_done (by kernel_rfl) (NoPanic.normal ?_) _
                    go_wp2_with fail
                    go_meet
                    case rel =>
                      refine ⟨w9.heap.size + 1, w9.heap.size, i9, c9, y9, b, rfl, rfl, ?_, h9, hbb, ?_, ?_, ?_, ?_, ?_, ?_, ?_, ?_, ?_, ?_, ?_⟩
                      · repeat (first | with_reducible exact Below.refl _ _ | with_reducible exact B9 | with_reducible exact B8 | with_reducible refine Below.drew ?_ | with_reducible refine Below.alloc ?_ (by first | omega | (simp; done) | (simp; omega)) _ | with_reducible refine Below.setCell ?_ (by first | omega | (simp; done) | (simp; omega)) _)
                      all_goals first | omega | go_simp
              · go_simp
                refine hK.out _ _ ?_ (fun hHeld => ?_)
                · exact KH.out _ (by repeat (first | with_reducible exact Below.refl _ _ | with_reducible exact B9 | with_reducible exact B8 | with_reducible refine Below.drew ?_ | with_reducible refine Below.alloc ?_ (by first | omega | (simp; done) | (simp; omega)) _ | with_reducible refine Below.setCell ?_ (by first | omega | (simp; done) | (simp; omega)) _))
                clear hK K
                try simp only [Act.put, List.setIfInBounds_toArray, List.set_cons_zero, List.set_cons_succ]
                refine wpAnyH_ready (rs := [6, 11]) (by kernel_rfl) (by simp) ?_
                refine AllReadyH.cons rfl (fun K hK => ?_) (AllReadyH.cons rfl (fun K hK => ?_) AllReadyH.nil)
                · go_simp
                  refine (OPER.out _ _ _ _ (by repeat (first | with_reducible exact Below.refl _ _ | with_reducible exact B9 | with_reducible exact B8 | with_reducible refine Below.drew ?_ | with_reducible refine Below.alloc ?_ (by first | omega | (simp; done) | (simp; omega)) _ | with_reducible refine Below.setCell ?_ (by first | omega | (simp; done) | (simp; omega)) _)) h8).mono ?_
                  rintro e w9 ⟨hb9, B9, i9, c9, y9, b, rfl, h9, hbb⟩
                  have hs9 := B9.size
                  obtain ⟨g12, _, hn⟩ := one_new hb9
                  have hz9 := hn.size
                  have f12 := g12
                  clear g12
                  have l12_9 := hlt_ f12
                  clear hn hb9
                  go_wp2_with fail
                  refine hK.out _ _ ?_ (fun hHeld => ?_)
                  · exact KH.out _ (by repeat (first | with_reducible exact Below.refl _ _ | with_reducible exact B9 | with_reducible exact B8 | with_reducible refine Below.drew ?_ | with_reducible refine Below.alloc ?_ (by first | omega | (simp; done) | (simp; omega)) _ | with_reducible refine Below.setCell ?_ (by first | omega | (simp; done) | (simp; omega)) _))
                  clear hK K
                  try simp only [Act.put, List.setIfInBounds_toArray, List.set_cons_zero, List.set_cons_succ]
                  refine wpAnyH_take (i := 7) (oi := _) (v := .tuple #[.agg #[.slice a ts.length cap, .int .i64 (i9 : Nat), .int .i64 fin, .int .i64 (n : Nat), .int .i64 c9, .int .i64 y9], .agg #[.int .i64 b.k, .int .i64 b.n, .string b.s]]) rfl (by kernel_rfl) (by kernel_rfl) (by kernel_rfl) (fun _ _ _ h => h) (Or.inl ⟨by rfl, ?_⟩) hHeld ?_
                  · intro w hSw
                    try dsimp only at hSw
                    go_simp
                  simp only [Act.put, List.setIfInBounds_toArray, List.set_cons_zero, List.set_cons_succ]
                  refine wpAnyH_take (i := 8) (oi := _) (v := .agg #[.slice a ts.length cap, .int .i64 (i9 : Nat), .int .i64 fin, .int .i64 (n : Nat), .int .i64 c9, .int .i64 y9]) rfl (by kernel_rfl) (by kernel_rfl) (by kernel_rfl) (fun _ _ _ h => h) (Or.inl ⟨by rfl, ?_⟩) hHeld ?_
                  · intro w hSw
                    try dsimp only at hSw
                    go_simp
                  simp only [Act.put, List.setIfInBounds_toArray, List.set_cons_zero, List.set_cons_succ]
                  refine wpAnyH_take (i := 9) (oi := _) (v := .agg #[.int .i64 b.k, .int .i64 b.n, .string b.s]) rfl (by kernel_rfl) (by kernel_rfl) (by kernel_rfl) (fun _ _ _ h => h) (Or.inl ⟨by rfl, ?_⟩) hHeld ?_
                  · intro w hSw
                    try dsimp only at hSw
                    go_simp
                  simp only [Act.put, List.setIfInBounds_toArray, List.set_cons_zero, List.set_cons_succ]
                  refine wpAnyH_ready (rs := [11]) (by kernel_rfl) (by simp) ?_
                  refine AllReadyH.cons rfl (fun K hK => ?_) AllReadyH.nil
                  · go_simp
                    refine hK.out _ _ ?_ (fun hHeld => ?_)
                    · exact KH.out _ (by repeat (first | with_reducible exact Below.refl _ _ | with_reducible exact B9 | with_reducible exact B8 | with_reducible refine Below.drew ?_ | with_reducible refine Below.alloc ?_ (by first | omega | (simp; done) | (simp; omega)) _ | with_reducible refine Below.setCell ?_ (by first | omega | (simp; done) | (simp; omega)) _))
                    clear hK K
                    try simp only [Act.put, List.setIfInBounds_toArray, List.set_cons_zero, List.set_cons_succ]
                    obtain ⟨s0, s1, s2, s3, s4, s5, sf⟩ := cells6 f12
                    have ne1 : ¬ w8.heap.size = w9.heap.size := by omega
                    have ne2 : ¬ w9.heap.size = w8.heap.size := by omega
                    refine wpAnyH_ready (rs := [12]) (by kernel_rfl) (by simp) ?_
                    refine AllReadyH.cons rfl (fun K hK => ?_) AllReadyH.nil
                    go_simp
                    refine hK.out _ _ ?_ (fun hHeld => ?_)
                    · exact KH.out _ (by repeat (first | with_reducible exact Below.refl _ _ | with_reducible exact B9 | with_reducible exact B8 | with_reducible refine Below.drew ?_ | with_reducible refine Below.alloc ?_ (by first | omega | (simp; done) | (simp; omega)) _ | with_reducible refine Below.setCell ?_ (by first | omega | (simp; done) | (simp; omega)) _))
                    clear hK K
                    try simp only [Act.put, List.setIfInBounds_toArray, List.set_cons_zero, List.set_cons_succ]
                    refine wpAnyH_ready (rs := [13]) (by kernel_rfl) (by simp) ?_
                    refine AllReadyH.cons rfl (fun K hK => ?_) AllReadyH.nil
                    go_simp
                    refine hK.out _ _ ?_ (fun hHeld => ?_)
                    · exact KH.out _ (by repeat (first | with_reducible exact Below.refl _ _ | with_reducible exact B9 | with_reducible exact B8 | with_reducible refine Below.drew ?_ | with_reducible refine Below.alloc ?_ (by first | omega | (simp; done) | (simp; omega)) _ | with_reducible refine Below.setCell ?_ (by first | omega | (simp; done) | (simp; omega)) _))
                    clear hK K
                    try simp only [Act.put, List.setIfInBounds_toArray, List.set_cons_zero, List.set_cons_succ]
                    refine wpAnyH_done (by kernel_rfl) (NoPanic.normal ?_) _
                    go_wp2_with fail
                    go_meet
                    case rel =>
                      refine ⟨w8.heap.size, w9.heap.size, i9, c9, y9, b, rfl, rfl, ?_, h9, hbb, ?_, ?_, ?_, ?_, ?_, ?_, ?_, ?_, ?_, ?_, ?_⟩
                      · repeat (first | with_reducible exact Below.refl _ _ | with_reducible exact B9 | with_reducible exact B8 | with_reducible refine Below.drew ?_ | with_reducible refine Below.alloc ?_ (by first | omega | (simp; done) | (simp; omega)) _ | with_reducible refine Below.setCell ?_ (by first | omega | (simp; done) | (simp; omega)) _)
                      all_goals first | omega | go_simp
                · go_simp
                  refine hK.out _ _ ?_ (fun hHeld => ?_)
                  · exact KH.out _ (by repeat (first | with_reducible exact Below.refl _ _ | with_reducible exact B9 | with_reducible exact B8 | with_reducible refine Below.drew ?_ | with_reducible refine Below.alloc ?_ (by first | omega | (simp; done) | (simp; omega)) _ | with_reducible refine Below.setCell ?_ (by first | omega | (simp; done) | (simp; omega)) _))
                  clear hK K
                  try simp only [Act.put, List.setIfInBounds_toArray, List.set_cons_zero, List.set_cons_succ]
                  refine wpAnyH_ready (rs := [6]) (by kernel_rfl) (by simp) ?_
                  refine AllReadyH.cons rfl (fun K hK => ?_) AllReadyH.nil
                  · go_simp
                    refine (OPER.out _ _ _ _ (by repeat (first | with_reducible exact Below.refl _ _ | with_reducible exact B9 | with_reducible exact B8 | with_reducible refine Below.drew ?_ | with_reducible refine Below.alloc ?_ (by first | omega | (simp; done) | (simp; omega)) _ | with_reducible refine Below.setCell ?_ (by first | omega | (simp; done) | (simp; omega)) _)) h8).mono ?_
                    rintro e w9 ⟨hb9, B9, i9, c9, y9, b, rfl, h9, hbb⟩
                    have hs9 := B9.size
                    obtain ⟨g12, g13, _, hn⟩ := two_new hb9
                    have hz9 := hn.size
                    have f12 := g12
                    clear g12
                    have l12_9 := hlt_ f12
                    have f13 := g13
                    clear g13
                    have l13_9 := hlt_ f13
                    clear hn hb9
                    go_wp2_with fail
                    refine hK.out _ _ ?_ (fun hHeld => ?_)
                    · exact KH.out _ (by repeat (first | with_reducible exact Below.refl _ _ | with_reducible exact B9 | with_reducible exact B8 | with_reducible refine Below.drew ?_ | with_reducible refine Below.alloc ?_ (by first | omega | (simp; done) | (simp; omega)) _ | with_reducible refine Below.setCell ?_ (by first | omega | (simp; done) | (simp; omega)) _))
                    clear hK K
                    try simp only [Act.put, List.setIfInBounds_toArray, List.set_cons_zero, List.set_cons_succ]
                    refine wpAnyH_take (i := 7) (oi := _) (v := .tuple #[.agg #[.slice a ts.length cap, .int .i64 (i9 : Nat), .int .i64 fin, .int .i64 (n : Nat), .int .i64 c9, .int .i64 y9], .agg #[.int .i64 b.k, .int .i64 b.n, .string b.s]]) rfl (by kernel_rfl) (by kernel_rfl) (by kernel_rfl) (fun _ _ _ h => h) (Or.inl ⟨by rfl, ?_⟩) hHeld ?_
                    · intro w hSw
                      try dsimp only at hSw
                      go_simp
                    simp only [Act.put, List.setIfInBounds_toArray, List.set_cons_zero, List.set_cons_succ]
                    refine wpAnyH_take (i := 8) (oi := _) (v := .agg #[.slice a ts.length cap, .int .i64 (i9 : Nat), .int .i64 fin, .int .i64 (n : Nat), .int .i64 c9, .int .i64 y9]) rfl (by kernel_rfl) (by kernel_rfl) (by kernel_rfl) (fun _ _ _ h => h) (Or.inl ⟨by rfl, ?_⟩) hHeld ?_
                    · intro w hSw
                      try dsimp only at hSw
                      go_simp
                    simp only [Act.put, List.setIfInBounds_toArray, List.set_cons_zero, List.set_cons_succ]
                    refine wpAnyH_take (i := 9) (oi := _) (v := .agg #[.int .i64 b.k, .int .i64 b.n, .string b.s]) rfl (by kernel_rfl) (by kernel_rfl) (by kernel_rfl) (fun _ _ _ h => h) (Or.inl ⟨by rfl, ?_⟩) hHeld ?_
                    · intro w hSw
                      try dsimp only at hSw
                      go_simp
                    simp only [Act.put, List.setIfInBounds_toArray, List.set_cons_zero, List.set_cons_succ]
                    obtain ⟨s0, s1, s2, s3, s4, s5, sf⟩ := cells6 f12
                    obtain ⟨r0, r1', r2, rf⟩ := tcells3 f13
                    refine wpAnyH_ready (rs := [12]) (by kernel_rfl) (by simp) ?_
                    refine AllReadyH.cons rfl (fun K hK => ?_) AllReadyH.nil
                    go_simp
                    refine hK.out _ _ ?_ (fun hHeld => ?_)
                    · exact KH.out _ (by repeat (first | with_reducible exact Below.refl _ _ | with_reducible exact B9 | with_reducible exact B8 | with_reducible refine Below.drew ?_ | with_reducible refine Below.alloc ?_ (by first | omega | (simp; done) | (simp; omega)) _ | with_reducible refine Below.setCell ?_ (by first | omega | (simp; done) | (simp; omega)) _))
                    clear hK K
                    try simp only [Act.put, List.setIfInBounds_toArray, List.set_cons_zero, List.set_cons_succ]
                    refine wpAnyH_ready (rs := [13]) (by kernel_rfl) (by simp) ?_
                    refine AllReadyH.cons rfl (fun K hK => ?_) AllReadyH.nil
                    go_simp
                    refine hK.out _ _ ?_ (fun hHeld => ?_)
                    · exact KH.out _ (by repeat (first | with_reducible exact Below.refl _ _ | with_reducible exact B9 | with_reducible exact B8 | with_reducible refine Below.drew ?_ | with_reducible refine Below.alloc ?_ (by first | omega | (simp; done) | (simp; omega)) _ | with_reducible refine Below.setCell ?_ (by first | omega | (simp; done) | (simp; omega)) _))
                    clear hK K
                    try simp only [Act.put, List.setIfInBounds_toArray, List.set_cons_zero, List.set_cons_succ]
                    refine wpAnyH_done (by kernel_rfl) (NoPanic.normal ?_) _
                    go_wp2_with fail
                    go_meet
                    case rel =>
                      refine ⟨w8.heap.size, w8.heap.size + 1, i9, c9, y9, b, rfl, rfl, ?_, h9, hbb, ?_, ?_, ?_, ?_, ?_, ?_, ?_, ?_, ?_, ?_, ?_⟩
                      · repeat (first | with_reducible exact Below.refl _ _ | with_reducible exact B9 | with_reducible exact B8 | with_reducible refine Below.drew ?_ | with_reducible refine Below.alloc ?_ (by first | omega | (simp; done) | (simp; omega)) _ | with_reducible refine Below.setCell ?_ (by first | omega | (simp; done) | (simp; omega)) _)
                      all_goals first | omega | go_simp
              · go_simp
                refine hK.out _ _ ?_ (fun hHeld => ?_)
                · exact KH.out _ (by repeat (first | with_reducible exact Below.refl _ _ | with_reducible exact B9 | with_reducible exact B8 | with_reducible refine Below.drew ?_ | with_reducible refine Below.alloc ?_ (by first | omega | (simp; done) | (simp; omega)) _ | with_reducible refine Below.setCell ?_ (by first | omega | (simp; done) | (simp; omega)) _))
                clear hK K
                try simp only [Act.put, List.setIfInBounds_toArray, List.set_cons_zero, List.set_cons_succ]
                refine wpAnyH_ready (rs := [6, 10]) (by kernel_rfl) (by simp) ?_
                refine AllReadyH.cons rfl (fun K hK => ?_) (AllReadyH.cons rfl (fun K hK => ?_) AllReadyH.nil)
                · go_simp
                  refine (OPER.out _ _ _ _ (by repeat (first | with_reducible exact Below.refl _ _ | with_reducible exact B9 | with_reducible exact B8 | with_reducible refine Below.drew ?_ | with_reducible refine Below.alloc ?_ (by first | omega | (simp; done) | (simp; omega)) _ | with_reducible refine Below.setCell ?_ (by first | omega | (simp; done) | (simp; omega)) _)) h8).mono ?_
                  rintro e w9 ⟨hb9, B9, i9, c9, y9, b, rfl, h9, hbb⟩
                  have hs9 := B9.size
                  obtain ⟨g13, _, hn⟩ := one_new hb9
                  have hz9 := hn.size
                  have f13 := g13
                  clear g13
                  have l13_9 := hlt_ f13
                  clear hn hb9
                  go_wp2_with fail
                  refine hK.out _ _ ?_ (fun hHeld => ?_)
                  · exact KH.out _ (by repeat (first | with_reducible exact Below.refl _ _ | with_reducible exact B9 | with_reducible exact B8 | with_reducible refine Below.drew ?_ | with_reducible refine Below.alloc ?_ (by first | omega | (simp; done) | (simp; omega)) _ | with_reducible refine Below.setCell ?_ (by first | omega | (simp; done) | (simp; omega)) _))
                  clear hK K
                  try simp only [Act.put, List.setIfInBounds_toArray, List.set_cons_zero, List.set_cons_succ]
                  refine wpAnyH_take (i := 7) (oi := _) (v := .tuple #[.agg #[.slice a ts.length cap, .int .i64 (i9 : Nat), .int .i64 fin, .int .i64 (n : Nat), .int .i64 c9, .int .i64 y9], .agg #[.int .i64 b.k, .int .i64 b.n, .string b.s]]) rfl (by kernel_rfl) (by kernel_rfl) (by kernel_rfl) (fun _ _ _ h => h) (Or.inl ⟨by rfl, ?_⟩) hHeld ?_
                  · intro w hSw
                    try dsimp only at hSw
                    go_simp
                  simp only [Act.put, List.setIfInBounds_toArray, List.set_cons_zero, List.set_cons_succ]
                  refine wpAnyH_take (i := 8) (oi := _) (v := .agg #[.slice a ts.length cap, .int .i64 (i9 : Nat), .int .i64 fin, .int .i64 (n : Nat), .int .i64 c9, .int .i64 y9]) rfl (by kernel_rfl) (by kernel_rfl) (by kernel_rfl) (fun _ _ _ h => h) (Or.inl ⟨by rfl, ?_⟩) hHeld ?_
                  · intro w hSw
                    try dsimp only at hSw
                    go_simp
                  simp only [Act.put, List.setIfInBounds_toArray, List.set_cons_zero, List.set_cons_succ]
                  refine wpAnyH_take (i := 9) (oi := _) (v := .agg #[.int .i64 b.k, .int .i64 b.n, .string b.s]) rfl (by kernel_rfl) (by kernel_rfl) (by kernel_rfl) (fun _ _ _ h => h) (Or.inl ⟨by rfl, ?_⟩) hHeld ?_
                  · intro w hSw
                    try dsimp only at hSw
                    go_simp
                  simp only [Act.put, List.setIfInBounds_toArray, List.set_cons_zero, List.set_cons_succ]
                  refine wpAnyH_ready (rs := [10]) (by kernel_rfl) (by simp) ?_
                  refine AllReadyH.cons rfl (fun K hK => ?_) AllReadyH.nil
                  · go_simp
                    refine hK.out _ _ ?_ (fun hHeld => ?_)
                    · exact KH.out _ (by repeat (first | with_reducible exact Below.refl _ _ | with_reducible exact B9 | with_reducible exact B8 | with_reducible refine Below.drew ?_ | with_reducible refine Below.alloc ?_ (by first | omega | (simp; done) | (simp; omega)) _ | with_reducible refine Below.setCell ?_ (by first | omega | (simp; done) | (simp; omega)) _))
                    clear hK K
                    try simp only [Act.put, List.setIfInBounds_toArray, List.set_cons_zero, List.set_cons_succ]
                    obtain ⟨r0, r1', r2, rf⟩ := tcells3 f13
                    have ne1 : ¬ w9.heap.size = w8.heap.size := by omega
                    have ne2 : ¬ w8.heap.size = w9.heap.size := by omega
                    refine wpAnyH_ready (rs := [12]) (by kernel_rfl) (by simp) ?_
                    refine AllReadyH.cons rfl (fun K hK => ?_) AllReadyH.nil
                    go_simp
                    refine hK.out _ _ ?_ (fun hHeld => ?_)
                    · exact KH.out _ (by repeat (first | with_reducible exact Below.refl _ _ | with_reducible exact B9 | with_reducible exact B8 | with_reducible refine Below.drew ?_ | with_reducible refine Below.alloc ?_ (by first | omega | (simp; done) | (simp; omega)) _ | with_reducible refine Below.setCell ?_ (by first | omega | (simp; done) | (simp; omega)) _))
                    clear hK K
                    try simp only [Act.put, List.setIfInBounds_toArray, List.set_cons_zero, List.set_cons_succ]
                    refine wpAnyH_ready (rs := [13]) (by kernel_rfl) (by simp) ?_
                    refine AllReadyH.cons rfl (fun K hK => ?_) AllReadyH.nil
                    go_simp
                    refine hK.out _ _ ?_ (fun hHeld => ?_)
                    · exact KH.out _ (by repeat (first | with_reducible exact Below.refl _ _ | with_reducible exact B9 | with_reducible exact B8 | with_reducible refine Below.drew ?_ | with_reducible refine Below.alloc ?_ (by first | omega | (simp; done) | (simp; omega)) _ | with_reducible refine Below.setCell ?_ (by first | omega | (simp; done) | (simp; omega)) _))
                    clear hK K
                    try simp only [Act.put, List.setIfInBounds_toArray, List.set_cons_zero, List.set_cons_succ]
                    refine wpAnyH_done (by kernel_rfl) (NoPanic.normal ?_) _
                    go_wp2_with fail
                    go_meet
                    case rel =>
                      refine ⟨w9.heap.size, w8.heap.size, i9, c9, y9, b, rfl, rfl, ?_, h9, hbb, ?_, ?_, ?_, ?_, ?_, ?_, ?_, ?_, ?_, ?_, ?_⟩
                      · repeat (first | with_reducible exact Below.refl _ _ | with_reducible exact B9 | with_reducible exact B8 | with_reducible refine Below.drew ?_ | with_reducible refine Below.alloc ?_ (by first | omega | (simp; done) | (simp; omega)) _ | with_reducible refine Below.setCell ?_ (by first | omega | (simp; done) | (simp; omega)) _)
                      all_goals first | omega | go_simp
                · go_simp
                  refine hK.out _ _ ?_ (fun hHeld => ?_)
                  · exact KH.out _ (by repeat (first | with_reducible exact Below.refl _ _ | with_reducible exact B9 | with_reducible exact B8 | with_reducible refine Below.drew ?_ | with_reducible refine Below.alloc ?_ (by first | omega | (simp; done) | (simp; omega)) _ | with_reducible refine Below.setCell ?_ (by first | omega | (simp; done) | (simp; omega)) _))
                  clear hK K
                  try simp only [Act.put, List.setIfInBounds_toArray, List.set_cons_zero, List.set_cons_succ]
                  refine wpAnyH_ready (rs := [6]) (by kernel_rfl) (by simp) ?_
                  refine AllReadyH.cons rfl (fun K hK => ?_) AllReadyH.nil
                  · go_simp
                    refine (OPER.out _ _ _ _ (by repeat (first | with_reducible exact Below.refl _ _ | with_reducible exact B9 | with_reducible exact B8 | with_reducible refine Below.drew ?_ | with_reducible refine Below.alloc ?_ (by first | omega | (simp; done) | (simp; omega)) _ | with_reducible refine Below.setCell ?_ (by first | omega | (simp; done) | (simp; omega)) _)) h8).mono ?_
                    rintro e w9 ⟨hb9, B9, i9, c9, y9, b, rfl, h9, hbb⟩
                    have hs9 := B9.size
                    obtain ⟨g13, g12, _, hn⟩ := two_new hb9
                    have hz9 := hn.size
                    have f13 := g13
                    clear g13
                    have l13_9 := hlt_ f13
                    have f12 := g12
                    clear g12
                    have l12_9 := hlt_ f12
                    clear hn hb9
                    go_wp2_with fail
                    refine hK.out _ _ ?_ (fun hHeld => ?_)
                    · exact KH.out _ (by repeat (first | with_reducible exact Below.refl _ _ | with_reducible exact B9 | with_reducible exact B8 | with_reducible refine Below.drew ?_ | with_reducible refine Below.alloc ?_ (by first | omega | (simp; done) | (simp; omega)) _ | with_reducible refine Below.setCell ?_ (by first | omega | (simp; done) | (simp; omega)) _))
                    clear hK K
                    try simp only [Act.put, List.setIfInBounds_toArray, List.set_cons_zero, List.set_cons_succ]
                    refine wpAnyH_take (i := 7) (oi := _) (v := .tuple #[.agg #[.slice a ts.length cap, .int .i64 (i9 : Nat), .int .i64 fin, .int .i64 (n : Nat), .int .i64 c9, .int .i64 y9], .agg #[.int .i64 b.k, .int .i64 b.n, .string b.s]]) rfl (by kernel_rfl) (by kernel_rfl) (by kernel_rfl) (fun _ _ _ h => h) (Or.inl ⟨by rfl, ?_⟩) hHeld ?_
                    · intro w hSw
                      try dsimp only at hSw
                      go_simp
                    simp only [Act.put, List.setIfInBounds_toArray, List.set_cons_zero, List.set_cons_succ]
                    refine wpAnyH_take (i := 8) (oi := _) (v := .agg #[.slice a ts.length cap, .int .i64 (i9 : Nat), .int .i64 fin, .int .i64 (n : Nat), .int .i64 c9, .int .i64 y9]) rfl (by kernel_rfl) (by kernel_rfl) (by kernel_rfl) (fun _ _ _ h => h) (Or.inl ⟨by rfl, ?_⟩) hHeld ?_
                    · intro w hSw
                      try dsimp only at hSw
                      go_simp
                    simp only [Act.put, List.setIfInBounds_toArray, List.set_cons_zero, List.set_cons_succ]
                    refine wpAnyH_take (i := 9) (oi := _) (v := .agg #[.int .i64 b.k, .int .i64 b.n, .string b.s]) rfl (by kernel_rfl) (by kernel_rfl) (by kernel_rfl) (fun _ _ _ h => h) (Or.inl ⟨by rfl, ?_⟩) hHeld ?_
                    · intro w hSw
                      try dsimp only at hSw
                      go_simp
                    simp only [Act.put, List.setIfInBounds_toArray, List.set_cons_zero, List.set_cons_succ]
                    obtain ⟨s0, s1, s2, s3, s4, s5, sf⟩ := cells6 f12
                    obtain ⟨r0, r1', r2, rf⟩ := tcells3 f13
                    refine wpAnyH_ready (rs := [12]) (by kernel_rfl) (by simp) ?_
                    refine AllReadyH.cons rfl (fun K hK => ?_) AllReadyH.nil
                    go_simp
                    refine hK.out _ _ ?_ (fun hHeld => ?_)
                    · exact KH.out _ (by repeat (first | with_reducible exact Below.refl _ _ | with_reducible exact B9 | with_reducible exact B8 | with_reducible refine Below.drew ?_ | with_reducible refine Below.alloc ?_ (by first | omega | (simp; done) | (simp; omega)) _ | with_reducible refine Below.setCell ?_ (by first | omega | (simp; done) | (simp; omega)) _))
                    clear hK K
                    try simp only [Act.put, List.setIfInBounds_toArray, List.set_cons_zero, List.set_cons_succ]
                    refine wpAnyH_ready (rs := [13]) (by kernel_rfl) (by simp) ?_
                    refine AllReadyH.cons rfl (fun K hK => ?_) AllReadyH.nil
                    go_simp
                    refine hK.out _ _ ?_ (fun hHeld => ?_)
                    · exact KH.out _ (by repeat (first | with_reducible exact Below.refl _ _ | with_reducible exact B9 | with_reducible exact B8 | with_reducible refine Below.drew ?_ | with_reducible refine Below.alloc ?_ (by first | omega | (simp; done) | (simp; omega)) _ | with_reducible refine Below.setCell ?_ (by first | omega | (simp; done) | (simp; omega)) _))
                    clear hK K
                    try simp only [Act.put, List.setIfInBounds_toArray, List.set_cons_zero, List.set_cons_succ]
                    refine wpAnyH_done (by kernel_rfl) (NoPanic.normal ?_) _
                    go_wp2_with fail
                    go_meet
                    case rel =>
                      refine ⟨w8.heap.size + 1, w8.heap.size, i9, c9, y9, b, rfl, rfl, ?_, h9, hbb, ?_, ?_, ?_, ?_, ?_, ?_, ?_, ?_, ?_, ?_, ?_⟩
                      · repeat (first | with_reducible exact Below.refl _ _ | with_reducible exact B9 | with_reducible exact B8 | with_reducible refine Below.drew ?_ | with_reducible refine Below.alloc ?_ (by first | omega | (simp; done) | (simp; omega)) _ | with_reducible refine Below.setCell ?_ (by first | omega | (simp; done) | (simp; omega)) _)
                      all_goals first | omega | go_simp
            · go_simp
              refine hK.out _ _ ?_ (fun hHeld => ?_)
              · exact KH.out _ (by repeat (first | with_reducible exact Below.refl _ _ | with_reducible exact B9 | with_reducible exact B8 | with_reducible refine Below.drew ?_ | with_reducible refine Below.alloc ?_ (by first | omega | (simp; done) | (simp; omega)) _ | with_reducible refine Below.setCell ?_ (by first | omega | (simp; done) | (simp; omega)) _))
              clear hK K
              try simp only [Act.put, List.setIfInBounds_toArray, List.set_cons_zero, List.set_cons_succ]
              refine wpAnyH_ready (rs := [5, 11]) (by kernel_rfl) (by simp) ?_
              refine AllReadyH.cons rfl (fun K hK => ?_) (AllReadyH.cons rfl (fun K hK => ?_) AllReadyH.nil)
              · go_simp
                refine (NEED.out _ (by repeat (first | with_reducible exact Below.refl _ _ | with_reducible exact B9 | with_reducible exact B8 | with_reducible refine Below.drew ?_ | with_reducible refine Below.alloc ?_ (by first | omega | (simp; done) | (simp; omega)) _ | with_reducible refine Below.setCell ?_ (by first | omega | (simp; done) | (simp; omega)) _))).mono ?_
                rintro e w8 ⟨hb8, B8, i8, c8, y8, rfl, h8⟩
                have hs8 := B8.size
                obtain ⟨g12, _, hn⟩ := one_new (undrew hb8)
                have hz8 := hn.size
                have f12 := g12
                clear g12
                have l12_8 := hlt_ f12
                clear hn hb8
                go_wp2_with fail
                refine hK.out _ _ ?_ (fun hHeld => ?_)
                · exact KH.out _ (by repeat (first | with_reducible exact Below.refl _ _ | with_reducible exact B9 | with_reducible exact B8 | with_reducible refine Below.drew ?_ | with_reducible refine Below.alloc ?_ (by first | omega | (simp; done) | (simp; omega)) _ | with_reducible refine Below.setCell ?_ (by first | omega | (simp; done) | (simp; omega)) _))
                clear hK K
                try simp only [Act.put, List.setIfInBounds_toArray, List.set_cons_zero, List.set_cons_succ]
                refine wpAnyH_ready (rs := [6, 11]) (by kernel_rfl) (by simp) ?_
                refine AllReadyH.cons rfl (fun K hK => ?_) (AllReadyH.cons rfl (fun K hK => ?_) AllReadyH.nil)
                · go_simp
                  refine (OPER.out _ _ _ _ (by repeat (first | with_reducible exact Below.refl _ _ | with_reducible exact B9 | with_reducible exact B8 | with_reducible refine Below.drew ?_ | with_reducible refine Below.alloc ?_ (by first | omega | (simp; done) | (simp; omega)) _ | with_reducible refine Below.setCell ?_ (by first | omega | (simp; done) | (simp; omega)) _)) h8).mono ?_
                  rintro e w9 ⟨hb9, B9, i9, c9, y9, b, rfl, h9, hbb⟩
                  have hs9 := B9.size
                  have hn := hb9
                  have g12 := kept hn f12
                  have hz9 := hn.size
                  clear f12
                  have f12 := g12
                  clear g12
                  have l12_9 := hlt_ f12
                  clear hn hb9
                  go_wp2_with fail
                  refine hK.out _ _ ?_ (fun hHeld => ?_)
                  · exact KH.out _ (by repeat (first | with_reducible exact Below.refl _ _ | with_reducible exact B9 | with_reducible exact B8 | with_reducible refine Below.drew ?_ | with_reducible refine Below.alloc ?_ (by first | omega | (simp; done) | (simp; omega)) _ | with_reducible refine Below.setCell ?_ (by first | omega | (simp; done) | (simp; omega)) _))
                  clear hK K
                  try simp only [Act.put, List.setIfInBounds_toArray, List.set_cons_zero, List.set_cons_succ]
                  refine wpAnyH_take (i := 7) (oi := _) (v := .tuple #[.agg #[.slice a ts.length cap, .int .i64 (i9 : Nat), .int .i64 fin, .int .i64 (n : Nat), .int .i64 c9, .int .i64 y9], .agg #[.int .i64 b.k, .int .i64 b.n, .string b.s]]) rfl (by kernel_rfl) (by kernel_rfl) (by kernel_rfl) (fun _ _ _ h => h) (Or.inl ⟨by rfl, ?_⟩) hHeld ?_
                  · intro w hSw
                    try dsimp only at hSw
                    go_simp
                  simp only [Act.put, List.setIfInBounds_toArray, List.set_cons_zero, List.set_cons_succ]
                  refine wpAnyH_take (i := 8) (oi := _) (v := .agg #[.slice a ts.length cap, .int .i64 (i9 : Nat), .int .i64 fin, .int .i64 (n : Nat), .int .i64 c9, .int .i64 y9]) rfl (by kernel_rfl) (by kernel_rfl) (by kernel_rfl) (fun _ _ _ h => h) (Or.inl ⟨by rfl, ?_⟩) hHeld ?_
                  · intro w hSw
                    try dsimp only at hSw
                    go_simp
                  simp only [Act.put, List.setIfInBounds_toArray, List.set_cons_zero, List.set_cons_succ]
                  refine wpAnyH_take (i := 9) (oi := _) (v := .agg #[.int .i64 b.k, .int .i64 b.n, .string b.s]) rfl (by kernel_rfl) (by kernel_rfl) (by kernel_rfl) (fun _ _ _ h => h) (Or.inl ⟨by rfl, ?_⟩) hHeld ?_
                  · intro w hSw
                    try dsimp only at hSw
                    go_simp
                  simp only [Act.put, List.setIfInBounds_toArray, List.set_cons_zero, List.set_cons_succ]
                  refine wpAnyH_ready (rs := [11]) (by kernel_rfl) (by simp) ?_
                  refine AllReadyH.cons rfl (fun K hK => ?_) AllReadyH.nil
                  · go_simp
                    refine hK.out _ _ ?_ (fun hHeld => ?_)
                    · exact KH.out _ (by repeat (first | with_reducible exact Below.refl _ _ | with_reducible exact B9 | with_reducible exact B8 | with_reducible refine Below.drew ?_ | with_reducible refine Below.alloc ?_ (by first | omega | (simp; done) | (simp; omega)) _ | with_reducible refine Below.setCell ?_ (by first | omega | (simp; done) | (simp; omega)) _))
                    clear hK K
                    try simp only [Act.put, List.setIfInBounds_toArray, List.set_cons_zero, List.set_cons_succ]
                    obtain ⟨s0, s1, s2, s3, s4, s5, sf⟩ := cells6 f12
                    have ne1 : ¬ w7.heap.size = w9.heap.size := by omega
                    have ne2 : ¬ w9.heap.size = w7.heap.size := by omega
                    refine wpAnyH_ready (rs := [12]) (by kernel_rfl) (by simp) ?_
                    refine AllReadyH.cons rfl (fun K hK => ?_) AllReadyH.nil
                    go_simp
                    refine hK.out _ _ ?_ (fun hHeld => ?_)
                    · exact KH.out _ (by repeat (first | with_reducible exact Below.refl _ _ | with_reducible exact B9 | with_reducible exact B8 | with_reducible refine Below.drew ?_ | with_reducible refine Below.alloc ?_ (by first | omega | (simp; done) | (simp; omega)) _ | with_reducible refine Below.setCell ?_ (by first | omega | (simp; done) | (simp; omega)) _))
                    clear hK K
                    try simp only [Act.put, List.setIfInBounds_toArray, List.set_cons_zero, List.set_cons_succ]
                    refine wpAnyH_ready (rs := [13]) (by kernel_rfl) (by simp) ?_
                    refine AllReadyH.cons rfl (fun K hK => ?_) AllReadyH.nil
                    go_simp
                    refine hK.out _ _ ?_ (fun hHeld => ?_)
                    · exact KH.out _ (by repeat (first | with_reducible exact Below.refl _ _ | with_reducible exact B9 | with_reducible exact B8 | with_reducible refine Below.drew ?_ | with_reducible refine Below.alloc ?_ (by first | omega | (simp; done) | (simp; omega)) _ | with_reducible refine Below.setCell ?_ (by first | omega | (simp; done) | (simp; omega)) _))
                    clear hK K
                    try simp only [Act.put, List.setIfInBounds_toArray, List.set_cons_zero, List.set_cons_succ]
                    refine wpAnyH_done (by kernel_rfl) (NoPanic.normal ?_) _
                    go_wp2_with fail
                    go_meet
                    case rel =>
                      refine ⟨w7.heap.size, w9.heap.size, i9, c9, y9, b, rfl, rfl, ?_, h9, hbb, ?_, ?_, ?_, ?_, ?_, ?_, ?_, ?_, ?_, ?_, ?_⟩
                      · repeat (first | with_reducible exact Below.refl _ _ | with_reducible exact B9 | with_reducible exact B8 | with_reducible refine Below.drew ?_ | with_reducible refine Below.alloc ?_ (by first | omega | (simp; done) | (simp; omega)) _ | with_reducible refine Below.setCell ?_ (by first | omega | (simp; done) | (simp; omega)) _)
                      all_goals first | omega | go_simp
                · go_simp
                  refine hK.out _ _ ?_ (fun hHeld => ?_)
                  · exact KH.out _ (by repeat (first | with_reducible exact Below.refl _ _ | with_reducible exact B9 | with_reducible exact B8 | with_reducible refine Below.drew ?_ | with_reducible refine Below.alloc ?_ (by first | omega | (simp; done) | (simp; omega)) _ | with_reducible refine Below.setCell ?_ (by first | omega | (simp; done) | (simp; omega)) _))
                  clear hK K
                  try simp only [Act.put, List.setIfInBounds_toArray, List.set_cons_zero, List.set_cons_succ]
                  refine wpAnyH_ready (rs := [6]) (by kernel_rfl) (by simp) ?_
                  refine AllReadyH.cons rfl (fun K hK => ?_) AllReadyH.nil
                  · go_simp
                    refine (OPER.out _ _ _ _ (by repeat (first | with_reducible exact Below.refl _ _ | with_reducible exact B9 | with_reducible exact B8 | with_reducible refine Below.drew ?_ | with_reducible refine Below.alloc ?_ (by first | omega | (simp; done) | (simp; omega)) _ | with_reducible refine Below.setCell ?_ (by first | omega | (simp; done) | (simp; omega)) _)) h8).mono ?_
                    rintro e w9 ⟨hb9, B9, i9, c9, y9, b, rfl, h9, hbb⟩
                    have hs9 := B9.size
                    obtain ⟨g13, _, hn⟩ := one_new hb9
                    have g12 := kept hn f12
                    have hz9 := hn.size
                    clear f12
                    have f12 := g12
                    clear g12
                    have l12_9 := hlt_ f12
                    have f13 := g13
                    clear g13
                    have l13_9 := hlt_ f13
                    clear hn hb9
                    go_wp2_with fail
                    refine hK.out _ _ ?_ (fun hHeld => ?_)
                    · exact KH.out _ (by repeat (first | with_reducible exact Below.refl _ _ | with_reducible exact B9 | with_reducible exact B8 | with_reducible refine Below.drew ?_ | with_reducible refine Below.alloc ?_ (by first | omega | (simp; done) | (simp; omega)) _ | with_reducible refine Below.setCell ?_ (by first | omega | (simp; done) | (simp; omega)) _))
                    clear hK K
                    try simp only [Act.put, List.setIfInBounds_toArray, List.set_cons_zero, List.set_cons_succ]
                    refine wpAnyH_take (i := 7) (oi := _) (v := .tuple #[.agg #[.slice a ts.length cap, .int .i64 (i9 : Nat), .int .i64 fin, .int .i64 (n : Nat), .int .i64 c9, .int .i64 y9], .agg #[.int .i64 b.k, .int .i64 b.n, .string b.s]]) rfl (by kernel_rfl) (by kernel_rfl) (by kernel_rfl) (fun _ _ _ h => h) (Or.inl ⟨by rfl, ?_⟩) hHeld ?_
                    · intro w hSw
                      try dsimp only at hSw
                      go_simp
                    simp only [Act.put, List.setIfInBounds_toArray, List.set_cons_zero, List.set_cons_succ]
                    refine wpAnyH_take (i := 8) (oi := _) (v := .agg #[.slice a ts.length cap, .int .i64 (i9 : Nat), .int .i64 fin, .int .i64 (n : Nat), .int .i64 c9, .int .i64 y9]) rfl (by kernel_rfl) (by kernel_rfl) (by kernel_rfl) (fun _ _ _ h => h) (Or.inl ⟨by rfl, ?_⟩) hHeld ?_
                    · intro w hSw
                      try dsimp only at hSw
                      go_simp
                    simp only [Act.put, List.setIfInBounds_toArray, List.set_cons_zero, List.set_cons_succ]
                    refine wpAnyH_take (i := 9) (oi := _) (v := .agg #[.int .i64 b.k, .int .i64 b.n, .string b.s]) rfl (by kernel_rfl) (by kernel_rfl) (by kernel_rfl) (fun _ _ _ h => h) (Or.inl ⟨by rfl, ?_⟩) hHeld ?_
                    · intro w hSw
                      try dsimp only at hSw
                      go_simp
                    simp only [Act.put, List.setIfInBounds_toArray, List.set_cons_zero, List.set_cons_succ]
                    obtain ⟨s0, s1, s2, s3, s4, s5, sf⟩ := cells6 f12
                    obtain ⟨r0, r1', r2, rf⟩ := tcells3 f13
                    have ne1 : ¬ w7.heap.size = w8.heap.size := by omega
                    have ne2 : ¬ w8.heap.size = w7.heap.size := by omega
                    refine wpAnyH_ready (rs := [12]) (by kernel_rfl) (by simp) ?_
                    refine AllReadyH.cons rfl (fun K hK => ?_) AllReadyH.nil
                    go_simp
                    refine hK.out _ _ ?_ (fun hHeld => ?_)
                    · exact KH.out _ (by repeat (first | with_reducible exact Below.refl _ _ | with_reducible exact B9 | with_reducible exact B8 | with_reducible refine Below.drew ?_ | with_reducible refine Below.alloc ?_ (by first | omega | (simp; done) | (simp; omega)) _ | with_reducible refine Below.setCell ?_ (by first | omega | (simp; done) | (simp; omega)) _))
                    clear hK K
                    try simp only [Act.put, List.setIfInBounds_toArray, List.set_cons_zero, List.set_cons_succ]
                    refine wpAnyH_ready (rs := [13]) (by kernel_rfl) (by simp) ?_
                    refine AllReadyH.cons rfl (fun K hK => ?_) AllReadyH.nil
                    go_simp
                    refine hK.out _ _ ?_ (fun hHeld => ?_)
                    · exact KH.out _ (by repeat (first | with_reducible exact Below.refl _ _ | with_reducible exact B9 | with_reducible exact B8 | with_reducible refine Below.drew ?_ | with_reducible refine Below.alloc ?_ (by first | omega | (simp; done) | (simp; omega)) _ | with_reducible refine Below.setCell ?_ (by first | omega | (simp; done) | (simp; omega)) _))
                    clear hK K
                    try simp only [Act.put, List.setIfInBounds_toArray, List.set_cons_zero, List.set_cons_succ]
                    refine wpAnyH_done (by kernel_rfl) (NoPanic.normal ?_) _
                    go_wp2_with fail
                    go_meet
                    case rel =>
                      refine ⟨w7.heap.size, w8.heap.size, i9, c9, y9, b, rfl, rfl, ?_, h9, hbb, ?_, ?_, ?_, ?_, ?_, ?_, ?_, ?_, ?_, ?_, ?_⟩
                      · repeat (first | with_reducible exact Below.refl _ _ | with_reducible exact B9 | with_reducible exact B8 | with_reducible refine Below.drew ?_ | with_reducible refine Below.alloc ?_ (by first | omega | (simp; done) | (simp; omega)) _ | with_reducible refine Below.setCell ?_ (by first | omega | (simp; done) | (simp; omega)) _)
                      all_goals first | omega | go_simp
              · go_simp
                refine hK.out _ _ ?_ (fun hHeld => ?_)
                · exact KH.out _ (by repeat (first | with_reducible exact Below.refl _ _ | with_reducible exact B9 | with_reducible exact B8 | with_reducible refine Below.drew ?_ | with_reducible refine Below.alloc ?_ (by first | omega | (simp; done) | (simp; omega)) _ | with_reducible refine Below.setCell ?_ (by first | omega | (simp; done) | (simp; omega)) _))
                clear hK K
                try simp only [Act.put, List.setIfInBounds_toArray, List.set_cons_zero, List.set_cons_succ]
                refine wpAnyH_ready (rs := [5]) (by kernel_rfl) (by simp) ?_
                refine AllReadyH.cons rfl (fun K hK => ?_) AllReadyH.nil
                · go_simp
                  refine (NEED.out _ (by repeat (first | with_reducible exact Below.refl _ _ | with_reducible exact B9 | with_reducible exact B8 | with_reducible refine Below.drew ?_ | with_reducible refine Below.alloc ?_ (by first | omega | (simp; done) | (simp; omega)) _ | with_reducible refine Below.setCell ?_ (by first | omega | (simp; done) | (simp; omega)) _))).mono ?_
                  rintro e w8 ⟨hb8, B8, i8, c8, y8, rfl, h8⟩
                  have hs8 := B8.size
                  obtain ⟨g12, g13, _, hn⟩ := two_new (undrew hb8)
                  have hz8 := hn.size
                  have f12 := g12
                  clear g12
                  have l12_8 := hlt_ f12
                  have f13 := g13
                  clear g13
                  have l13_8 := hlt_ f13
                  clear hn hb8
                  go_wp2_with fail
                  refine hK.out _ _ ?_ (fun hHeld => ?_)
                  · exact KH.out _ (by repeat (first | with_reducible exact Below.refl _ _ | with_reducible exact B9 | with_reducible exact B8 | with_reducible refine Below.drew ?_ | with_reducible refine Below.alloc ?_ (by first | omega | (simp; done) | (simp; omega)) _ | with_reducible refine Below.setCell ?_ (by first | omega | (simp; done) | (simp; omega)) _))
                  clear hK K
                  try simp only [Act.put, List.setIfInBounds_toArray, List.set_cons_zero, List.set_cons_succ]
                  refine wpAnyH_ready (rs := [6]) (by kernel_rfl) (by simp) ?_
                  refine AllReadyH.cons rfl (fun K hK => ?_) AllReadyH.nil
                  · go_simp
                    refine (OPER.out _ _ _ _ (by repeat (first | with_reducible exact Below.refl _ _ | with_reducible exact B9 | with_reducible exact B8 | with_reducible refine Below.drew ?_ | with_reducible refine Below.alloc ?_ (by first | omega | (simp; done) | (simp; omega)) _ | with_reducible refine Below.setCell ?_ (by first | omega | (simp; done) | (simp; omega)) _)) h8).mono ?_
                    rintro e w9 ⟨hb9, B9, i9, c9, y9, b, rfl, h9, hbb⟩
                    have hs9 := B9.size
                    have hn := hb9
                    have g12 := kept hn f12
                    have g13 := kept hn f13
                    have hz9 := hn.size
                    clear f12
                    clear f13
                    have f12 := g12
                    clear g12
                    have l12_9 := hlt_ f12
                    have f13 := g13
                    clear g13
                    have l13_9 := hlt_ f13
                    clear hn hb9
                    go_wp2_with fail
                    refine hK.out _ _ ?_ (fun hHeld => ?_)
                    · exact KH.out _ (by repeat (first | with_reducible exact Below.refl _ _ | with_reducible exact B9 | with_reducible exact B8 | with_reducible refine Below.drew ?_ | with_reducible refine Below.alloc ?_ (by first | omega | (simp; done) | (simp; omega)) _ | with_reducible refine Below.setCell ?_ (by first | omega | (simp; done) | (simp; omega)) _))
                    clear hK K
                    try simp only [Act.put, List.setIfInBounds_toArray, List.set_cons_zero, List.set_cons_succ]
                    refine wpAnyH_take (i := 7) (oi := _) (v := .tuple #[.agg #[.slice a ts.length cap, .int .i64 (i9 : Nat), .int .i64 fin, .int .i64 (n : Nat), .int .i64 c9, .int .i64 y9], .agg #[.int .i64 b.k, .int .i64 b.n, .string b.s]]) rfl (by kernel_rfl) (by kernel_rfl) (by kernel_rfl) (fun _ _ _ h => h) (Or.inl ⟨by rfl, ?_⟩) hHeld ?_
                    · intro w hSw
                      try dsimp only at hSw
                      go_simp
                    simp only [Act.put, List.setIfInBounds_toArray, List.set_cons_zero, List.set_cons_succ]
                    refine wpAnyH_take (i := 8) (oi := _) (v := .agg #[.slice a ts.length cap, .int .i64 (i9 : Nat), .int .i64 fin, .int .i64 (n : Nat), .int .i64 c9, .int .i64 y9]) rfl (by kernel_rfl) (by kernel_rfl) (by kernel_rfl) (fun _ _ _ h => h) (Or.inl ⟨by rfl, ?_⟩) hHeld ?_
                    · intro w hSw
                      try dsimp only at hSw
                      go_simp
                    simp only [Act.put, List.setIfInBounds_toArray, List.set_cons_zero, List.set_cons_succ]
                    refine wpAnyH_take (i := 9) (oi := _) (v := .agg #[.int .i64 b.k, .int .i64 b.n, .string b.s]) rfl (by kernel_rfl) (by kernel_rfl) (by kernel_rfl) (fun _ _ _ h => h) (Or.inl ⟨by rfl, ?_⟩) hHeld ?_
                    · intro w hSw
                      try dsimp only at hSw
                      go_simp
                    simp only [Act.put, List.setIfInBounds_toArray, List.set_cons_zero, List.set_cons_succ]
                    obtain ⟨s0, s1, s2, s3, s4, s5, sf⟩ := cells6 f12
                    obtain ⟨r0, r1', r2, rf⟩ := tcells3 f13
                    refine wpAnyH_ready (rs := [12]) (by kernel_rfl) (by simp) ?_
                    refine AllReadyH.cons rfl (fun K hK => ?_) AllReadyH.nil
                    go_simp
                    refine hK.out _ _ ?_ (fun hHeld => ?_)
                    · exact KH.out _ (by repeat (first | with_reducible exact Below.refl _ _ | with_reducible exact B9 | with_reducible exact B8 | with_reducible refine Below.drew ?_ | with_reducible refine Below.alloc ?_ (by first | omega | (simp; done) | (simp; omega)) _ | with_reducible refine Below.setCell ?_ (by first | omega | (simp; done) | (simp; omega)) _))
                    clear hK K
                    try simp only [Act.put, List.setIfInBounds_toArray, List.set_cons_zero, List.set_cons_succ]
                    refine wpAnyH_ready (rs := [13]) (by kernel_rfl) (by simp) ?_
                    refine AllReadyH.cons rfl (fun K hK => ?_) AllReadyH.nil
                    go_simp
                    refine hK.out _ _ ?_ (fun hHeld => ?_)
                    · exact KH.out _ (by repeat (first | with_reducible exact Below.refl _ _ | with_reducible exact B9 | with_reducible exact B8 | with_reducible refine Below.drew ?_ | with_reducible refine Below.alloc ?_ (by first | omega | (simp; done) | (simp; omega)) _ | with_reducible refine Below.setCell ?_ (by first | omega | (simp; done) | (simp; omega)) _))
                    clear hK K
                    try simp only [Act.put, List.setIfInBounds_toArray, List.set_cons_zero, List.set_cons_succ]
                    refine wpAnyH_done (by kernel_rfl) (NoPanic.normal ?_) _
                    go_wp2_with fail
                    go_meet
                    case rel =>
                      refine ⟨w7.heap.size, w7.heap.size + 1, i9, c9, y9, b, rfl, rfl, ?_, h9, hbb, ?_, ?_, ?_, ?_, ?_, ?_, ?_, ?_, ?_, ?_, ?_⟩
                      · repeat (first | with_reducible exact Below.refl _ _ | with_reducible exact B9 | with_reducible exact B8 | with_reducible refine Below.drew ?_ | with_reducible refine Below.alloc ?_ (by first | omega | (simp; done) | (simp; omega)) _ | with_reducible refine Below.setCell ?_ (by first | omega | (simp; done) | (simp; omega)) _)
                      all_goals first | omega | go_simp
            · go_simp
              refine hK.out _ _ ?_ (fun hHeld => ?_)
              · exact KH.out _ (by repeat (first | with_reducible exact Below.refl _ _ | with_reducible exact B9 | with_reducible exact B8 | with_reducible refine Below.drew ?_ | with_reducible refine Below.alloc ?_ (by first | omega | (simp; done) | (simp; omega)) _ | with_reducible refine Below.setCell ?_ (by first | omega | (simp; done) | (simp; omega)) _))
              clear hK K
              try simp only [Act.put, List.setIfInBounds_toArray, List.set_cons_zero, List.set_cons_succ]
              refine wpAnyH_ready (rs := [5, 10]) (by kernel_rfl) (by simp) ?_
              refine AllReadyH.cons rfl (fun K hK => ?_) (AllReadyH.cons rfl (fun K hK => ?_) AllReadyH.nil)
              · go_simp
                refine (NEED.out _ (by repeat (first | with_reducible exact Below.refl _ _ | with_reducible exact B9 | with_reducible exact B8 | with_reducible refine Below.drew ?_ | with_reducible refine Below.alloc ?_ (by first | omega | (simp; done) | (simp; omega)) _ | with_reducible refine Below.setCell ?_ (by first | omega | (simp; done) | (simp; omega)) _))).mono ?_
                rintro e w8 ⟨hb8, B8, i8, c8, y8, rfl, h8⟩
                have hs8 := B8.size
                obtain ⟨g13, _, hn⟩ := one_new (undrew hb8)
                have hz8 := hn.size
                have f13 := g13
                clear g13
                have l13_8 := hlt_ f13
                clear hn hb8
                go_wp2_with fail
                refine hK.out _ _ ?_ (fun hHeld => ?_)
                · exact KH.out _ (by repeat (first | with_reducible exact Below.refl _ _ | with_reducible exact B9 | with_reducible exact B8 | with_reducible refine Below.drew ?_ | with_reducible refine Below.alloc ?_ (by first | omega | (simp; done) | (simp; omega)) _ | with_reducible refine Below.setCell ?_ (by first | omega | (simp; done) | (simp; omega)) _))
                clear hK K
                try simp only [Act.put, List.setIfInBounds_toArray, List.set_cons_zero, List.set_cons_succ]
                refine wpAnyH_ready (rs := [6, 10]) (by kernel_rfl) (by simp) ?_
                refine AllReadyH.cons rfl (fun K hK => ?_) (AllReadyH.cons rfl (fun K hK => ?_) AllReadyH.nil)
                · go_simp
                  refine (OPER.out _ _ _ _ (by repeat (first | with_reducible exact Below.refl _ _ | with_reducible exact B9 | with_reducible exact B8 | with_reducible refine Below.drew ?_ | with_reducible refine Below.alloc ?_ (by first | omega | (simp; done) | (simp; omega)) _ | with_reducible refine Below.setCell ?_ (by first | omega | (simp; done) | (simp; omega)) _)) h8).mono ?_
                  rintro e w9 ⟨hb9, B9, i9, c9, y9, b, rfl, h9, hbb⟩
                  have hs9 := B9.size
                  have hn := hb9
                  have g13 := kept hn f13
                  have hz9 := hn.size
                  clear f13
                  have f13 := g13
                  clear g13
                  have l13_9 := hlt_ f13
                  clear hn hb9
                  go_wp2_with fail
                  refine hK.out _ _ ?_ (fun hHeld => ?_)
                  · exact KH.out _ (by repeat (first | with_reducible exact Below.refl _ _ | with_reducible exact B9 | with_reducible exact B8 | with_reducible refine Below.drew ?_ | with_reducible refine Below.alloc ?_ (by first | omega | (simp; done) | (simp; omega)) _ | with_reducible refine Below.setCell ?_ (by first | omega | (simp; done) | (simp; omega)) _))
                  clear hK K
                  try simp only [Act.put, List.setIfInBounds_toArray, List.set_cons_zero, List.set_cons_succ]
                  refine wpAnyH_take (i := 7) (oi := _) (v := .tuple #[.agg #[.slice a ts.length cap, .int .i64 (i9 : Nat), .int .i64 fin, .int .i64 (n : Nat), .int .i64 c9, .int .i64 y9], .agg #[.int .i64 b.k, .int .i64 b.n, .string b.s]]) rfl (by kernel_rfl) (by kernel_rfl) (by kernel_rfl) (fun _ _ _ h => h) (Or.inl ⟨by rfl, ?_⟩) hHeld ?_
                  · intro w hSw
                    try dsimp only at hSw
                    go_simp
                  simp only [Act.put, List.setIfInBounds_toArray, List.set_cons_zero, List.set_cons_succ]
                  refine wpAnyH_take (i := 8) (oi := _) (v := .agg #[.slice a ts.length cap, .int .i64 (i9 : Nat), .int .i64 fin, .int .i64 (n : Nat), .int .i64 c9, .int .i64 y9]) rfl (by kernel_rfl) (by kernel_rfl) (by kernel_rfl) (fun _ _ _ h => h) (Or.inl ⟨by rfl, ?_⟩) hHeld ?_
                  · intro w hSw
                    try dsimp only at hSw
                    go_simp
                  simp only [Act.put, List.setIfInBounds_toArray, List.set_cons_zero, List.set_cons_succ]
                  refine wpAnyH_take (i := 9) (oi := _) (v := .agg #[.int .i64 b.k, .int .i64 b.n, .string b.s]) rfl (by kernel_rfl) (by kernel_rfl) (by kernel_rfl) (fun _ _ _ h => h) (Or.inl ⟨by rfl, ?_⟩) hHeld ?_
                  · intro w hSw
                    try dsimp only at hSw
                    go_simp
                  simp only [Act.put, List.setIfInBounds_toArray, List.set_cons_zero, List.set_cons_succ]
                  refine wpAnyH_ready (rs := [10]) (by kernel_rfl) (by simp) ?_
                  refine AllReadyH.cons rfl (fun K hK => ?_) AllReadyH.nil
                  · go_simp
                    refine hK.out _ _ ?_ (fun hHeld => ?_)
                    · exact KH.out _ (by repeat (first | with_reducible exact Below.refl _ _ | with_reducible exact B9 | with_reducible exact B8 | with_reducible refine Below.drew ?_ | with_reducible refine Below.alloc ?_ (by first | omega | (simp; done) | (simp; omega)) _ | with_reducible refine Below.setCell ?_ (by first | omega | (simp; done) | (simp; omega)) _))
                    clear hK K
                    try simp only [Act.put, List.setIfInBounds_toArray, List.set_cons_zero, List.set_cons_succ]
                    obtain ⟨r0, r1', r2, rf⟩ := tcells3 f13
                    have ne1 : ¬ w9.heap.size = w7.heap.size := by omega
                    have ne2 : ¬ w7.heap.size = w9.heap.size := by omega
                    refine wpAnyH_ready (rs := [12]) (by kernel_rfl) (by simp) ?_
                    refine AllReadyH.cons rfl (fun K hK => ?_) AllReadyH.nil
                    go_simp
                    refine hK.out _ _ ?_ (fun hHeld => ?_)
                    · exact KH.out _ (by repeat (first | with_reducible exact Below.refl _ _ | with_reducible exact B9 | with_reducible exact B8 | with_reducible refine Below.drew ?_ | with_reducible refine Below.alloc ?_ (by first | omega | (simp; done) | (simp; omega)) _ | with_reducible refine Below.setCell ?_ (by first | omega | (simp; done) | (simp; omega)) _))
                    clear hK K
                    try simp only [Act.put, List.setIfInBounds_toArray, List.set_cons_zero, List.set_cons_succ]
                    refine wpAnyH_ready (rs := [13]) (by kernel_rfl) (by simp) ?_
                    refine AllReadyH.cons rfl (fun K hK => ?_) AllReadyH.nil
                    go_simp
                    refine hK.out _ _ ?_ (fun hHeld => ?_)
                    · exact KH.out _ (by repeat (first | with_reducible exact Below.refl _ _ | with_reducible exact B9 | with_reducible exact B8 | with_reducible refine Below.drew ?_ | with_reducible refine Below.alloc ?_ (by first | omega | (simp; done) | (simp; omega)) _ | with_reducible refine Below.setCell ?_ (by first | omega | (simp; done) | (simp; omega)) _))
                    clear hK K
                    try simp only [Act.put, List.setIfInBounds_toArray, List.set_cons_zero, List.set_cons_succ]
                    refine wpAnyH_done (by kernel_rfl) (NoPanic.normal ?_) _
                    go_wp2_with fail
                    go_meet
                    case rel =>
                      refine ⟨w9.heap.size, w7.heap.size, i9, c9, y9, b, rfl, rfl, ?_, h9, hbb, ?_, ?_, ?_, ?_, ?_, ?_, ?_, ?_, ?_, ?_, ?_⟩
                      · repeat (first | with_reducible exact Below.refl _ _ | with_reducible exact B9 | with_reducible exact B8 | with_reducible refine Below.drew ?_ | with_reducible refine Below.alloc ?_ (by first | omega | (simp; done) | (simp; omega)) _ | with_reducible refine Below.setCell ?_ (by first | omega | (simp; done) | (simp; omega)) _)
                      all_goals first | omega | go_simp
                · go_simp
                  refine hK.out _ _ ?_ (fun hHeld => ?_)
                  · exact KH.out _ (by repeat (first | with_reducible exact Below.refl _ _ | with_reducible exact B9 | with_reducible exact B8 | with_reducible refine Below.drew ?_ | with_reducible refine Below.alloc ?_ (by first | omega | (simp; done) | (simp; omega)) _ | with_reducible refine Below.setCell ?_ (by first | omega | (simp; done) | (simp; omega)) _))
                  clear hK K
                  try simp only [Act.put, List.setIfInBounds_toArray, List.set_cons_zero, List.set_cons_succ]
                  refine wpAnyH_ready (rs := [6]) (by kernel_rfl) (by simp) ?_
                  refine AllReadyH.cons rfl (fun K hK => ?_) AllReadyH.nil
                  · go_simp
                    refine (OPER.out _ _ _ _ (by repeat (first | with_reducible exact Below.refl _ _ | with_reducible exact B9 | with_reducible exact B8 | with_reducible refine Below.drew ?_ | with_reducible refine Below.alloc ?_ (by first | omega | (simp; done) | (simp; omega)) _ | with_reducible refine Below.setCell ?_ (by first | omega | (simp; done) | (simp; omega)) _)) h8).mono ?_
                    rintro e w9 ⟨hb9, B9, i9, c9, y9, b, rfl, h9, hbb⟩
                    have hs9 := B9.size
                    obtain ⟨g12, _, hn⟩ := one_new hb9
                    have g13 := kept hn f13
                    have hz9 := hn.size
                    clear f13
                    have f13 := g13
                    clear g13
                    have l13_9 := hlt_ f13
                    have f12 := g12
                    clear g12
                    have l12_9 := hlt_ f12
                    clear hn hb9
                    go_wp2_with fail
                    refine hK.out _ _ ?_ (fun hHeld => ?_)
                    · exact KH.out _ (by repeat (first | with_reducible exact Below.refl _ _ | with_reducible exact B9 | with_reducible exact B8 | with_reducible refine Below.drew ?_ | with_reducible refine Below.alloc ?_ (by first | omega | (simp; done) | (simp; omega)) _ | with_reducible refine Below.setCell ?_ (by first | omega | (simp; done) | (simp; omega)) _))
                    clear hK K
                    try simp only [Act.put, List.setIfInBounds_toArray, List.set_cons_zero, List.set_cons_succ]
                    refine wpAnyH_take (i := 7) (oi := _) (v := .tuple #[.agg #[.slice a ts.length cap, .int .i64 (i9 : Nat), .int .i64 fin, .int .i64 (n : Nat), .int .i64 c9, .int .i64 y9], .agg #[.int .i64 b.k, .int .i64 b.n, .string b.s]]) rfl (by kernel_rfl) (by kernel_rfl) (by kernel_rfl) (fun _ _ _ h => h) (Or.inl ⟨by rfl, ?_⟩) hHeld ?_
                    · intro w hSw
                      try dsimp only at hSw
                      go_simp
                    simp only [Act.put, List.setIfInBounds_toArray, List.set_cons_zero, List.set_cons_succ]
                    refine wpAnyH_take (i := 8) (oi := _) (v := .agg #[.slice a ts.length cap, .int .i64 (i9 : Nat), .int .i64 fin, .int .i64 (n : Nat), .int .i64 c9, .int .i64 y9]) rfl (by kernel_rfl) (by kernel_rfl) (by kernel_rfl) (fun _ _ _ h => h) (Or.inl ⟨by rfl, ?_⟩) hHeld ?_
                    · intro w hSw
                      try dsimp only at hSw
                      go_simp
                    simp only [Act.put, List.setIfInBounds_toArray, List.set_cons_zero, List.set_cons_succ]
                    refine wpAnyH_take (i := 9) (oi := _) (v := .agg #[.int .i64 b.k, .int .i64 b.n, .string b.s]) rfl (by kernel_rfl) (by kernel_rfl) (by kernel_rfl) (fun _ _ _ h => h) (Or.inl ⟨by rfl, ?_⟩) hHeld ?_
                    · intro w hSw
                      try dsimp only at hSw
                      go_simp
                    simp only [Act.put, List.setIfInBounds_toArray, List.set_cons_zero, List.set_cons_succ]
                    obtain ⟨s0, s1, s2, s3, s4, s5, sf⟩ := cells6 f12
                    obtain ⟨r0, r1', r2, rf⟩ := tcells3 f13
                    have ne1 : ¬ w8.heap.size = w7.heap.size := by omega
                    have ne2 : ¬ w7.heap.size = w8.heap.size := by omega
                    refine wpAnyH_ready (rs := [12]) (by kernel_rfl) (by simp) ?_
                    refine AllReadyH.cons rfl (fun K hK => ?_) AllReadyH.nil
                    go_simp
                    refine hK.out _ _ ?_ (fun hHeld => ?_)
                    · exact KH.out _ (by repeat (first | with_reducible exact Below.refl _ _ | with_reducible exact B9 | with_reducible exact B8 | with_reducible refine Below.drew ?_ | with_reducible refine Below.alloc ?_ (by first | omega | (simp; done) | (simp; omega)) _ | with_reducible refine Below.setCell ?_ (by first | omega | (simp; done) | (simp; omega)) _))
                    clear hK K
                    try simp only [Act.put, List.setIfInBounds_toArray, List.set_cons_zero, List.set_cons_succ]
                    refine wpAnyH_ready (rs := [13]) (by kernel_rfl) (by simp) ?_
                    refine AllReadyH.cons rfl (fun K hK => ?_) AllReadyH.nil
                    go_simp
                    refine hK.out _ _ ?_ (fun hHeld => ?_)
                    · exact KH.out _ (by repeat (first | with_reducible exact Below.refl _ _ | with_reducible exact B9 | with_reducible exact B8 | with_reducible refine Below.drew ?_ | with_reducible refine Below.alloc ?_ (by first | omega | (simp; done) | (simp; omega)) _ | with_reducible refine Below.setCell ?_ (by first | omega | (simp; done) | (simp; omega)) _))
                    clear hK K
                    try simp only [Act.put, List.setIfInBounds_toArray, List.set_cons_zero, List.set_cons_succ]
                    refine wpAnyH_done (by kernel_rfl) (NoPanic.normal ?_) _
                    go_wp2_with fail
                    go_meet
                    case rel =>
                      refine ⟨w8.heap.size, w7.heap.size, i9, c9, y9, b, rfl, rfl, ?_, h9, hbb, ?_, ?_, ?_, ?_, ?_, ?_, ?_, ?_, ?_, ?_, ?_⟩
                      · repeat (first | with_reducible exact Below.refl _ _ | with_reducible exact B9 | with_reducible exact B8 | with_reducible refine Below.drew ?_ | with_reducible refine Below.alloc ?_ (by first | omega | (simp; done) | (simp; omega)) _ | with_reducible refine Below.setCell ?_ (by first | omega | (simp; done) | (simp; omega)) _)
                      all_goals first | omega | go_simp
              · go_simp
                refine hK.out _ _ ?_ (fun hHeld => ?_)
                · exact KH.out _ (by repeat (first | with_reducible exact Below.refl _ _ | with_reducible exact B9 | with_reducible exact B8 | with_reducible refine Below.drew ?_ | with_reducible refine Below.alloc ?_ (by first | omega | (simp; done) | (simp; omega)) _ | with_reducible refine Below.setCell ?_ (by first | omega | (simp; done) | (simp; omega)) _))
                clear hK K
                try simp only [Act.put, List.setIfInBounds_toArray, List.set_cons_zero, List.set_cons_succ]
                refine wpAnyH_ready (rs := [5]) (by kernel_rfl) (by simp) ?_
                refine AllReadyH.cons rfl (fun K hK => ?_) AllReadyH.nil
                · go_simp
                  refine (NEED.out _ (by repeat (first | with_reducible exact Below.refl _ _ | with_reducible exact B9 | with_reducible exact B8 | with_reducible refine Below.drew ?_ | with_reducible refine Below.alloc ?_ (by first | omega | (simp; done) | (simp; omega)) _ | with_reducible refine Below.setCell ?_ (by first | omega | (simp; done) | (simp; omega)) _))).mono ?_
                  rintro e w8 ⟨hb8, B8, i8, c8, y8, rfl, h8⟩
                  have hs8 := B8.size
                  obtain ⟨g13, g12, _, hn⟩ := two_new (undrew hb8)
                  have hz8 := hn.size
                  have f13 := g13
                  clear g13
                  have l13_8 := hlt_ f13
                  have f12 := g12
                  clear g12
                  have l12_8 := hlt_ f12
                  clear hn hb8
                  go_wp2_with fail
                  refine hK.out _ _ ?_ (fun hHeld => ?_)
                  · exact KH.out _ (by repeat (first | with_reducible exact Below.refl _ _ | with_reducible exact B9 | with_reducible exact B8 | with_reducible refine Below.drew ?_ | with_reducible refine Below.alloc ?_ (by first | omega | (simp; done) | (simp; omega)) _ | with_reducible refine Below.setCell ?_ (by first | omega | (simp; done) | (simp; omega)) _))
                  clear hK K
                  try simp only [Act.put, List.setIfInBounds_toArray, List.set_cons_zero, List.set_cons_succ]
                  refine wpAnyH_ready (rs := [6]) (by kernel_rfl) (by simp) ?_
                  refine AllReadyH.cons rfl (fun K hK => ?_) AllReadyH.nil
                  · go_simp
                    refine (OPER.out _ _ _ _ (by repeat (first | with_reducible exact Below.refl _ _ | with_reducible exact B9 | with_reducible exact B8 | with_reducible refine Below.drew ?_ | with_reducible refine Below.alloc ?_ (by first | omega | (simp; done) | (simp; omega)) _ | with_reducible refine Below.setCell ?_ (by first | omega | (simp; done) | (simp; omega)) _)) h8).mono ?_
                    rintro e w9 ⟨hb9, B9, i9, c9, y9, b, rfl, h9, hbb⟩
                    have hs9 := B9.size
                    have hn := hb9
                    have g13 := kept hn f13
                    have g12 := kept hn f12
                    have hz9 := hn.size
                    clear f13
                    clear f12
                    have f13 := g13
                    clear g13
                    have l13_9 := hlt_ f13
                    have f12 := g12
                    clear g12
                    have l12_9 := hlt_ f12
                    clear hn hb9
                    go_wp2_with fail
                    refine hK.out _ _ ?_ (fun hHeld => ?_)
                    · exact KH.out _ (by repeat (first | with_reducible exact Below.refl _ _ | with_reducible exact B9 | with_reducible exact B8 | with_reducible refine Below.drew ?_ | with_reducible refine Below.alloc ?_ (by first | omega | (simp; done) | (simp; omega)) _ | with_reducible refine Below.setCell ?_ (by first | omega | (simp; done) | (simp; omega)) _))
                    clear hK K
                    try simp only [Act.put, List.setIfInBounds_toArray, List.set_cons_zero, List.set_cons_succ]
                    refine wpAnyH_take (i := 7) (oi := _) (v := .tuple #[.agg #[.slice a ts.length cap, .int .i64 (i9 : Nat), .int .i64 fin, .int .i64 (n : Nat), .int .i64 c9, .int .i64 y9], .agg #[.int .i64 b.k, .int .i64 b.n, .string b.s]]) rfl (by kernel_rfl) (by kernel_rfl) (by kernel_rfl) (fun _ _ _ h => h) (Or.inl ⟨by rfl, ?_⟩) hHeld ?_
                    · intro w hSw
                      try dsimp only at hSw
                      go_simp
                    simp only [Act.put, List.setIfInBounds_toArray, List.set_cons_zero, List.set_cons_succ]
                    refine wpAnyH_take (i := 8) (oi := _) (v := .agg #[.slice a ts.length cap, .int .i64 (i9 : Nat), .int .i64 fin, .int .i64 (n : Nat), .int .i64 c9, .int .i64 y9]) rfl (by kernel_rfl) (by kernel_rfl) (by kernel_rfl) (fun _ _ _ h => h) (Or.inl ⟨by rfl, ?_⟩) hHeld ?_
                    · intro w hSw
                      try dsimp only at hSw
                      go_simp
                    simp only [Act.put, List.setIfInBounds_toArray, List.set_cons_zero, List.set_cons_succ]
                    refine wpAnyH_take (i := 9) (oi := _) (v := .agg #[.int .i64 b.k, .int .i64 b.n, .string b.s]) rfl (by kernel_rfl) (by kernel_rfl) (by kernel_rfl) (fun _ _ _ h => h) (Or.inl ⟨by rfl, ?_⟩) hHeld ?_
                    · intro w hSw
                      try dsimp only at hSw
                      go_simp
                    simp only [Act.put, List.setIfInBounds_toArray, List.set_cons_zero, List.set_cons_succ]
                    obtain ⟨s0, s1, s2, s3, s4, s5, sf⟩ := cells6 f12
                    obtain ⟨r0, r1', r2, rf⟩ := tcells3 f13
                    refine wpAnyH_ready (rs := [12]) (by kernel_rfl) (by simp) ?_
                    refine AllReadyH.cons rfl (fun K hK => ?_) AllReadyH.nil
                    go_simp
                    refine hK.out _ _ ?_ (fun hHeld => ?_)
                    · exact KH.out _ (by repeat (first | with_reducible exact Below.refl _ _ | with_reducible exact B9 | with_reducible exact B8 | with_reducible refine Below.drew ?_ | with_reducible refine Below.alloc ?_ (by first | omega | (simp; done) | (simp; omega)) _ | with_reducible refine Below.setCell ?_ (by first | omega | (simp; done) | (simp; omega)) _))
                    clear hK K
                    try simp only [Act.put, List.setIfInBounds_toArray, List.set_cons_zero, List.set_cons_succ]
                    refine wpAnyH_ready (rs := [13]) (by kernel_rfl) (by simp) ?_
                    refine AllReadyH.cons rfl (fun K hK => ?_) AllReadyH.nil
                    go_simp
                    refine hK.out _ _ ?_ (fun hHeld => ?_)
                    · exact KH.out _ (by repeat (first | with_reducible exact Below.refl _ _ | with_reducible exact B9 | with_reducible exact B8 | with_reducible refine Below.drew ?_ | with_reducible refine Below.alloc ?_ (by first | omega | (simp; done) | (simp; omega)) _ | with_reducible refine Below.setCell ?_ (by first | omega | (simp; done) | (simp; omega)) _))
                    clear hK K
                    try simp only [Act.put, List.setIfInBounds_toArray, List.set_cons_zero, List.set_cons_succ]
                    refine wpAnyH_done (by kernel_rfl) (NoPanic.normal ?_) _
                    go_wp2_with fail
                    go_meet
                    case rel =>
                      refine ⟨w7.heap.size + 1, w7.heap.size, i9, c9, y9, b, rfl, rfl, ?_, h9, hbb, ?_, ?_, ?_, ?_, ?_, ?_, ?_, ?_, ?_, ?_, ?_⟩
                      · repeat (first | with_reducible exact Below.refl _ _ | with_reducible exact B9 | with_reducible exact B8 | with_reducible refine Below.drew ?_ | with_reducible refine Below.alloc ?_ (by first | omega | (simp; done) | (simp; omega)) _ | with_reducible refine Below.setCell ?_ (by first | omega | (simp; done) | (simp; omega)) _)
                      all_goals first | omega | go_simp
          case rest =>
            obtain ⟨g12, g13, i9, c9, y9, b, rfl, rfl, B9, h9, hbb, t0, t1, t2, t3, t4, t5, v0, v1, v2, l12, l13⟩ := hcut
            have hQ8 := kept B9 hQ7
            have hR8 := kept B9 hR7
            have hO8 := kept B9 hO7
            have hgj8 := (B9.cell (p := ⟨w4.heap.size + 1 + 1, j, none⟩) (hlt_ hG7)).trans hgj7
            have hbw8 := hbw7.trans (B9.mono hbw7.size)
            have hlg : w4.heap.size + 1 + 1 < w7.heap.size := hlt_ hG7
            have h12 := World.block_lt_of_cell? _ _ t0
            have h13 := World.block_lt_of_cell? _ _ v0
            have hzc : w7.heap.size ≤ wc.heap.size := B9.size
            clear NEED OPER KH hQ7 hR7 hX7 hO7 hG7 hgj7 x0 x1 x2 x3 x4 x5 xf hb7
            obtain ⟨o0, o1, o2, of⟩ := tcells3 hO8
            have KH : Hid (∀ W, Keep (fun b => b < w.heap.size + 1 + 1 + 1) wc W → W.cell? ⟨g12, 0, none⟩ = some (.slice a ts.length cap) ∧ W.cell? ⟨g12, 1, none⟩ = some (.int .i64 (i9 : Nat)) ∧ W.cell? ⟨g12, 2, none⟩ = some (.int .i64 fin) ∧ W.cell? ⟨g12, 3, none⟩ = some (.int .i64 (n : Nat)) ∧ W.cell? ⟨g12, 4, none⟩ = some (.int .i64 c9) ∧ W.cell? ⟨g12, 5, none⟩ = some (.int .i64 y9) ∧ W.cell? ⟨w4.heap.size + 1 + 1, j, none⟩ = some (.string tx) ∧ W.cell? ⟨w4.heap.size + 1, 0, none⟩ = some (.int .i64 o.k) ∧ W.cell? ⟨w4.heap.size + 1, 1, none⟩ = some (.int .i64 o.n) ∧ W.cell? ⟨w4.heap.size + 1, 2, none⟩ = some (.string o.s) ∧ W.cell? ⟨g13, 0, none⟩ = some (.int .i64 b.k) ∧ W.cell? ⟨g13, 1, none⟩ = some (.int .i64 b.n) ∧ W.cell? ⟨g13, 2, none⟩ = some (.string b.s)) := fun W hk => by
              have e := fun (b i : Nat) (h1 : b < wc.heap.size) (h2 : ¬ b < w.heap.size + 1 + 1 + 1) => World.cell?_of_block (w := wc) (a := ⟨b, i, none⟩) (hk.block b h1 h2)
              simp only at h12 h13
              exact ⟨(e _ _ h12 (by omega)).trans t0, (e _ _ h12 (by omega)).trans t1, (e _ _ h12 (by omega)).trans t2, (e _ _ h12 (by omega)).trans t3, (e _ _ h12 (by omega)).trans t4, (e _ _ h12 (by omega)).trans t5, (e _ _ (by omega) (by omega)).trans hgj8, (e _ _ (by omega) (by omega)).trans o0, (e _ _ (by omega) (by omega)).trans o1, (e _ _ (by omega) (by omega)).trans o2, (e _ _ h13 (by omega)).trans v0, (e _ _ h13 (by omega)).trans v1, (e _ _ h13 (by omega)).trans v2⟩
            have HE := hid (bind_end (needR r1 tx) M.operand (fun b => (⟨1, M.em, tx, [o, b], []⟩ : M.Val)) b hbb.out)
            go_wp2_with fail
            obtain ⟨q0, q1, q2, q3, q4, q5, qf⟩ := cells6 hQ8
            obtain ⟨z0, z1, z2, z3, z4, z5, z6, z7, zf, zz⟩ := cells8 hR8
            have e0 : w.heap.size < wc.heap.size := by omega
            have e1 : w.heap.size + 1 < wc.heap.size := by omega
            have e2 : ¬ wc.heap.size < w.heap.size := by omega
            go_region_held3 (fun w' => w'.cell? ⟨g12, 0, none⟩ = some (.slice a ts.length cap) ∧ w'.cell? ⟨g12, 1, none⟩ = some (.int .i64 (i9 : Nat)) ∧ w'.cell? ⟨g12, 2, none⟩ = some (.int .i64 fin) ∧ w'.cell? ⟨g12, 3, none⟩ = some (.int .i64 (n : Nat)) ∧ w'.cell? ⟨g12, 4, none⟩ = some (.int .i64 c9) ∧ w'.cell? ⟨g12, 5, none⟩ = some (.int .i64 y9) ∧ w'.cell? ⟨w4.heap.size + 1 + 1, j, none⟩ = some (.string tx) ∧ w'.cell? ⟨w4.heap.size + 1, 0, none⟩ = some (.int .i64 o.k) ∧ w'.cell? ⟨w4.heap.size + 1, 1, none⟩ = some (.int .i64 o.n) ∧ w'.cell? ⟨w4.heap.size + 1, 2, none⟩ = some (.string o.s) ∧ w'.cell? ⟨g13, 0, none⟩ = some (.int .i64 b.k) ∧ w'.cell? ⟨g13, 1, none⟩ = some (.int .i64 b.n) ∧ w'.cell? ⟨g13, 2, none⟩ = some (.string b.s)) (first | exact KH.out _ (by repeat (first | with_reducible exact keep_self | with_reducible refine keep_drew ?_ | with_reducible refine keep_alloc ?_ | with_reducible refine keep_setc ?_ (by first | omega | (simp; done) | (simp; omega)))) | go_keep) (fail)
            all_goals
              go_wp2_with fail
              refine bodyPost_ret (v := .tuple #[.agg #[.slice a ts.length cap, .int .i64 (i9 : Nat), .int .i64 fin, .int .i64 (n : Nat), .int .i64 c9, .int .i64 y9], .agg #[.int .i64 1, .string ⟨#[]⟩, .string ⟨#[]⟩, .string tx, .slice (some ⟨wc.heap.size, 0, none⟩) 2 2, .slice none 0 0, .slice none 0 0, .slice none 0 0]]) (by simp [results, Tryz.results92, go_sem, q0, q1, q2, q3, q4, q5, z0, z1, z2, z3, z4, z5, z6, z7, e0, e1, zz]) rfl ⟨?_, i9, c9, y9, _, ⟨1, M.em, tx, [o, b], []⟩, rfl, by rw [HV2.out, HE.out.1]; exact h9, ⟨_, _, rfl, ?_, StrsAt.nil _ _⟩, fun S' x e => by rw [HV2.out] at e; exact HE.out.2 _ _ e⟩
              · repeat (first | with_reducible exact hbw8 | with_reducible refine Below.setCell ?_ (by first | omega | (simp; done) | (simp; omega)) _ | with_reducible refine Below.drew ?_ | with_reducible refine Below.alloc ?_ (by first | omega | (simp; done) | (simp; omega)) _)
              · first | exact ops2_drew (by simp) e2 | exact ops2_new (by simp) e2
    · obtain rfl : j = 5 := by omega
      have HNo : ∀ q (h : q < 5), isR r1 (sgs[q]'h) = false := fun q h => HN.out q h h
      have HNH := hid HNo
      clear HNo HN hlt hjk
      have hwr : True := trivial
      generalize hWW : wr = w6 at *
      clear hWW hwr
      by_cases hk4 : o.k = 4
      · obtain ⟨ok, on, os⟩ := o
        simp only at hk4 hO6 HV
        subst hk4
        obtain ⟨x0, x1, x2, x3, x4, x5, xf⟩ := cells6 hX6
        obtain ⟨o0, o1, o2, of⟩ := tcells3 hO6
        have hlo := hlt_ hO6
        go_wp2_with fail
        clear x0 x1 x2 x3 x4 x5 xf
        clear o0 o1 o2 of
        refine (ris_any _ _ _ _ _ _ _ _ _ _ _ h4 (hT.keep hbw6) (M.ch 40) (by decide) (by decide)).mono ?_
        rintro e w7 ⟨rfl, hb⟩
        have hQ7 := kept hb hQ6
        have hR7 := kept hb hR6
        have hX7 := kept hb hX6
        have hO7 := kept hb hO6
        have hG7 := kept hb hG6
        have hbw7 := hbw6.trans (hb.mono hbw6.size)
        clear hb hQ6 hR6 hX6 hO6 hG6
        cases hb4 : isR r1 (M.ch 40)
        · obtain ⟨x0, x1, x2, x3, x4, x5, xf⟩ := cells6 hX7
          obtain ⟨o0, o1, o2, of⟩ := tcells3 hO7
          go_wp2_with fail
          clear x0 x1 x2 x3 x4 x5 xf
          clear o0 o1 o2 of
          refine (ris_any _ _ _ _ _ _ _ _ _ _ _ h4 (hT.keep hbw7) (M.ch 46) (by decide) (by decide)).mono ?_
          rintro e w8 ⟨rfl, hb⟩
          have hQ8 := kept hb hQ7
          have hR8 := kept hb hR7
          have hX8 := kept hb hX7
          have hO8 := kept hb hO7
          have hG8 := kept hb hG7
          have hbw8 := hbw7.trans (hb.mono hbw7.size)
          clear hb hQ7 hR7 hX7 hO7 hG7
          cases hb5 : isR r1 (M.ch 46)
          · have HNo := HNH.out
            have HV3 := hid (HV.out.trans (val_move HNo (.inr ⟨hb4, hb5⟩)))
            have HE := hid (mv_end r1 (⟨0, M.em, M.em, [(⟨4, on, os⟩ : M.Opd)], []⟩ : M.Val))
            obtain ⟨x0, x1, x2, x3, x4, x5, xf⟩ := cells6 hX8
            obtain ⟨o0, o1, o2, of⟩ := tcells3 hO8
            obtain ⟨q0, q1, q2, q3, q4, q5, qf⟩ := cells6 hQ8
            obtain ⟨z0, z1, z2, z3, z4, z5, z6, z7, zf, zz⟩ := cells8 hR8
            have hlo := hlt_ hO8
            have e0 : w.heap.size < w8.heap.size := by omega
            have e1 : w.heap.size + 1 < w8.heap.size := by omega
            have e2 : ¬ w8.heap.size < w.heap.size := by omega
            have e3 : w4.heap.size < w8.heap.size := by omega
            have n1 : ¬ w4.heap.size = w.heap.size + 1 := by omega
            have n2 : ¬ w4.heap.size = w.heap.size + 1 + 1 := by omega
            have n3 : ¬ w4.heap.size + 1 = w.heap.size + 1 := by omega
            have n4 : ¬ w4.heap.size + 1 = w.heap.size + 1 + 1 := by omega
            go_wp2_with fail
            go_region
            all_goals
              go_wp2_with fail
              refine bodyPost_ret (v := .tuple #[.agg #[.slice a ts.length cap, .int .i64 (i4 : Nat), .int .i64 fin, .int .i64 (n : Nat), .int .i64 c4, .int .i64 y4], .agg #[.int .i64 0, .string ⟨#[]⟩, .string ⟨#[]⟩, .string ⟨#[]⟩, .slice (some ⟨w8.heap.size, 0, none⟩) 1 1, .slice none 0 0, .slice none 0 0, .slice none 0 0]]) (by simp [results, Tryz.results92, go_sem, q0, q1, q2, q3, q4, q5, z0, z1, z2, z3, z4, z5, z6, z7, e0, e1, zz]) rfl ⟨?_, i4, c4, y4, _, ⟨0, M.em, M.em, [(⟨4, on, os⟩ : M.Opd)], []⟩, rfl, by rw [HV3.out, HE.out.1]; exact h4, ⟨_, _, rfl, ?_, StrsAt.nil _ _⟩, fun S' x e => by rw [HV3.out] at e; exact HE.out.2 _ _ e⟩
              · repeat (first | with_reducible exact hbw8 | with_reducible refine Below.setCell ?_ (by first | omega | (simp; done) | (simp; omega)) _ | with_reducible refine Below.drew ?_ | with_reducible refine Below.alloc ?_ (by first | omega | (simp; done) | (simp; omega)) _)
              · first | exact ops1_drew (o := (⟨4, on, os⟩ : M.Opd)) (by simp) e2 | exact ops1_new (o := (⟨4, on, os⟩ : M.Opd)) (by simp) e2
          · have HV3 := hid (HV.out.trans (val_get rfl hb5))
            obtain ⟨x0, x1, x2, x3, x4, x5, xf⟩ := cells6 hX8
            go_wp2_with fail
            clear x0 x1 x2 x3 x4 x5 xf
            refine (rneed_any _ _ _ _ _ _ _ _ _ _ _ h4 (hT.keep hbw8) (M.ch 46) (by decide) (by decide)).mono ?_
            rintro e w9 ⟨hb, i9, c9, y9, rfl, h9⟩
            have hQ9 := kept hb hQ8
            have hR9 := kept hb hR8
            have hX9 := kept hb hX8
            have hO9 := kept hb hO8
            have hG9 := kept hb hG8
            have hbw9 := hbw8.trans (hb.mono hbw8.size)
            clear hb hQ8 hR8 hX8 hO8 hG8
            go_wp2_with fail
            refine (rname_any _ _ _ _ _ _ _ _ _ _ _ h9 (hT.keep hbw9)).mono ?_
            rintro e w10 ⟨hb, i10, c10, y10, s, rfl, h10, hs⟩
            have hQ10 := kept hb hQ9
            have hR10 := kept hb hR9
            have hX10 := kept hb hX9
            have hO10 := kept hb hO9
            have hG10 := kept hb hG9
            have hbw10 := hbw9.trans (hb.mono hbw9.size)
            clear hb hQ9 hR9 hX9 hO9 hG9
            have HE := hid (bind_end (needR r1 (M.ch 46)) M.name (fun nm => (⟨2, os, nm, [], []⟩ : M.Val)) s hs)
            obtain ⟨o0, o1, o2, of⟩ := tcells3 hO10
            obtain ⟨q0, q1, q2, q3, q4, q5, qf⟩ := cells6 hQ10
            obtain ⟨z0, z1, z2, z3, z4, z5, z6, z7, zf, zz⟩ := cells8 hR10
            have hlo := hlt_ hO10
            have e0 : w.heap.size < w10.heap.size := by omega
            have e1 : w.heap.size + 1 < w10.heap.size := by omega
            have e3 : w4.heap.size < w10.heap.size := by omega
            have n3 : ¬ w4.heap.size + 1 = w.heap.size + 1 := by omega
            have n4 : ¬ w4.heap.size + 1 = w.heap.size + 1 + 1 := by omega
            go_wp2_with fail
            go_region
            all_goals
              go_wp2_with fail
              refine bodyPost_ret (v := .tuple #[.agg #[.slice a ts.length cap, .int .i64 (i10 : Nat), .int .i64 fin, .int .i64 (n : Nat), .int .i64 c10, .int .i64 y10], .agg #[.int .i64 2, .string ⟨#[]⟩, .string os, .string s, .slice none 0 0, .slice none 0 0, .slice none 0 0, .slice none 0 0]]) (by simp [results, Tryz.results92, go_sem, q0, q1, q2, q3, q4, q5, z0, z1, z2, z3, z4, z5, z6, z7, e0, e1, zz]) rfl ⟨?_, i10, c10, y10, _, ⟨2, os, s, [], []⟩, rfl, by rw [HV3.out, HE.out.1]; exact h10, ⟨_, _, rfl, ?_, StrsAt.nil _ _⟩, fun S' x e => by rw [HV3.out] at e; exact HE.out.2 _ _ e⟩
              · repeat (first | with_reducible exact hbw10 | with_reducible refine Below.setCell ?_ (by first | omega | (simp; done) | (simp; omega)) _ | with_reducible refine Below.drew ?_ | with_reducible refine Below.alloc ?_ (by first | omega | (simp; done) | (simp; omega)) _)
              · exact OpsAt.nil _ _
        · have HV3 := hid (HV.out.trans (val_app rfl hb4))
          obtain ⟨x0, x1, x2, x3, x4, x5, xf⟩ := cells6 hX7
          have hl7 : w.heap.size + 1 + 1 + 1 ≤ w7.heap.size := by have := hlt_ hR7; omega
          go_wp2_with fail
          clear x0 x1 x2 x3 x4 x5 xf
          refine (rargs_any _ _ _ _ _ _ _ _ _ _ _ h4 (hT.keep hbw7) hfew).mono ?_
          rintro e w8 ⟨hb, i8, c8, y8, v, l, rfl, h8, hv, hl⟩
          have hQ8 := kept hb hQ7
          have hR8 := kept hb hR7
          have hX8 := kept hb hX7
          have hO8 := kept hb hO7
          have hG8 := kept hb hG7
          have hbw8 := hbw7.trans (hb.mono hbw7.size)
          clear hb hQ7 hR7 hX7 hO7 hG7
          obtain ⟨av, cv, rfl⟩ := SlAt.form hv
          have HE := hid (bind_end r1 M.operands (fun l => (⟨6, os, M.em, l, []⟩ : M.Val)) l hl)
          obtain ⟨o0, o1, o2, of⟩ := tcells3 hO8
          obtain ⟨q0, q1, q2, q3, q4, q5, qf⟩ := cells6 hQ8
          obtain ⟨z0, z1, z2, z3, z4, z5, z6, z7, zf, zz⟩ := cells8 hR8
          have hlo := hlt_ hO8
          have e0 : w.heap.size < w8.heap.size := by omega
          have e1 : w.heap.size + 1 < w8.heap.size := by omega
          have e3 : w4.heap.size < w8.heap.size := by omega
          have n3 : ¬ w4.heap.size + 1 = w.heap.size + 1 := by omega
          have n4 : ¬ w4.heap.size + 1 = w.heap.size + 1 + 1 := by omega
          go_wp2_with fail
          go_region
          all_goals
            go_wp2_with fail
            refine bodyPost_ret (v := .tuple #[.agg #[.slice a ts.length cap, .int .i64 (i8 : Nat), .int .i64 fin, .int .i64 (n : Nat), .int .i64 c8, .int .i64 y8], .agg #[.int .i64 6, .string ⟨#[]⟩, .string os, .string ⟨#[]⟩, .slice av l.length cv, .slice none 0 0, .slice none 0 0, .slice none 0 0]]) (by simp [results, Tryz.results92, go_sem, q0, q1, q2, q3, q4, q5, z0, z1, z2, z3, z4, z5, z6, z7, e0, e1, zz]) rfl ⟨?_, i8, c8, y8, _, ⟨6, os, M.em, l, []⟩, rfl, by rw [HV3.out, HE.out.1]; exact h8, ⟨_, _, rfl, ?_, StrsAt.nil _ _⟩, fun S' x e => by rw [HV3.out] at e; exact HE.out.2 _ _ e⟩
            · repeat (first | with_reducible exact hbw8 | with_reducible refine Below.setCell ?_ (by first | omega | (simp; done) | (simp; omega)) _ | with_reducible refine Below.drew ?_ | with_reducible refine Below.alloc ?_ (by first | omega | (simp; done) | (simp; omega)) _)
            · refine ((SlAt.weak hv (Y := fun b => b < w.heap.size + 1 + 1 + 1) fun b _ hx hy => hx (Nat.lt_of_lt_of_le hy hl7)).keep ?_).weak fun b _ hx hy => hx (by have : b < w.heap.size := hy; omega)
              repeat (first | with_reducible exact keep_self | with_reducible refine keep_drew ?_ | with_reducible refine keep_alloc ?_ | with_reducible refine keep_setc ?_ (by first | omega | (simp; done) | (simp; omega)))
      · have hk4b : (o.k == 4) = false := by simpa using hk4
        have HNo := HNH.out
        have HV3 := hid (HV.out.trans (val_move HNo (.inl hk4)))
        have HE := hid (mv_end r1 (⟨0, M.em, M.em, [o], []⟩ : M.Val))
        obtain ⟨x0, x1, x2, x3, x4, x5, xf⟩ := cells6 hX6
        obtain ⟨o0, o1, o2, of⟩ := tcells3 hO6
        obtain ⟨q0, q1, q2, q3, q4, q5, qf⟩ := cells6 hQ6
        obtain ⟨z0, z1, z2, z3, z4, z5, z6, z7, zf, zz⟩ := cells8 hR6
        have hlo := hlt_ hO6
        have e0 : w.heap.size < w6.heap.size := by omega
        have e1 : w.heap.size + 1 < w6.heap.size := by omega
        have e2 : ¬ w6.heap.size < w.heap.size := by omega
        have e3 : w4.heap.size < w6.heap.size := by omega
        have n1 : ¬ w4.heap.size = w.heap.size + 1 := by omega
        have n2 : ¬ w4.heap.size = w.heap.size + 1 + 1 := by omega
        have n3 : ¬ w4.heap.size + 1 = w.heap.size + 1 := by omega
        have n4 : ¬ w4.heap.size + 1 = w.heap.size + 1 + 1 := by omega
        go_wp2_with fail
        go_region
        all_goals
          go_wp2_with fail
          refine bodyPost_ret (v := .tuple #[.agg #[.slice a ts.length cap, .int .i64 (i4 : Nat), .int .i64 fin, .int .i64 (n : Nat), .int .i64 c4, .int .i64 y4], .agg #[.int .i64 0, .string ⟨#[]⟩, .string ⟨#[]⟩, .string ⟨#[]⟩, .slice (some ⟨w6.heap.size, 0, none⟩) 1 1, .slice none 0 0, .slice none 0 0, .slice none 0 0]]) (by simp [results, Tryz.results92, go_sem, q0, q1, q2, q3, q4, q5, z0, z1, z2, z3, z4, z5, z6, z7, e0, e1, zz]) rfl ⟨?_, i4, c4, y4, _, ⟨0, M.em, M.em, [o], []⟩, rfl, by rw [HV3.out, HE.out.1]; exact h4, ⟨_, _, rfl, ?_, StrsAt.nil _ _⟩, fun S' x e => by rw [HV3.out] at e; exact HE.out.2 _ _ e⟩
          · repeat (first | with_reducible exact hbw6 | with_reducible refine Below.setCell ?_ (by first | omega | (simp; done) | (simp; omega)) _ | with_reducible refine Below.drew ?_ | with_reducible refine Below.alloc ?_ (by first | omega | (simp; done) | (simp; omega)) _)
          · first | exact ops1_drew (o := o) (by simp) e2 | exact ops1_new (o := o) (by simp) e2

theorem rvalue_any (a : Option Addr) (cap : Nat) (ts : List M.Tok) (fin : Int) (d : Nat) (r : RSt) (i n : Nat) (c y : Int) (w : World) (h : RS ts fin d r i n c y) (hT : TokAt w (.slice a ts.length cap) ts) (hfew : ts.length ≤ 4398046511000) :
    Calls Tryz.prog 92 #[.agg #[.slice a ts.length cap, .int .i64 (i : Nat), .int .i64 fin, .int .i64 (n : Nat), .int .i64 c, .int .i64 y]] w fun e w' => Below w.heap.size w w' ∧ ∃ (i' : Nat) (c' y' : Int) (v : Value) (x : M.Val), e = .returned (.tuple #[.agg #[.slice a ts.length cap, .int .i64 (i' : Nat), .int .i64 fin, .int .i64 (n : Nat), .int .i64 c', .int .i64 y'], v]) ∧ RS ts fin d (stR (valueR r)) i' n c' y' ∧ valEnc w x v w' ∧ ∀ S' x', valueR r = .ok (S', x') → x = x' := by
  cases k0 : isR r M.kIn
  · cases k1 : isR r M.kCall
    · cases k2 : isR r M.kNew
      · exact rvalue_op _ _ _ _ _ _ _ _ _ _ _ h hT hfew k0 k1 k2
      · exact rvalue_new _ _ _ _ _ _ _ _ _ _ _ h hT hfew k0 k1 k2
    · exact rvalue_call _ _ _ _ _ _ _ _ _ _ _ h hT hfew k0 k1
  · exact rvalue_in _ _ _ _ _ _ _ _ _ _ _ h hT hfew k0
end Go.Proofs.YtkpmpnebmkeocaaGreatDoor
end
