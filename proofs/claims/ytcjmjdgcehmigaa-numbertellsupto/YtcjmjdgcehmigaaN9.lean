/-
  The region of number.List that appends a copied statement, in whatever order its parts are evaluated. No conditions.
-/
import Derived.Test.YtcjmjdgcehmigaaN5
import Derived.Test.YtcjmjdgcehmigaaN8
import Derived.Shelf.RegionOpen
set_option linter.unusedVariables false
set_option linter.unusedSimpArgs false
namespace Go.Proofs.Ytcjmjdgcehmigaa
open Go.RowKit Go.Shelf
attribute [local go_sem] Oper.semAt_some

/-- list = append(list, copied(s)) -/
def listOps : Array Oper := #[{ dst := some 10, op := Op.load 22 (Operand.tmp 3), type := 22, pos := "number.go:23", after := #[], guard := none }, { dst := some 11, op := Op.load 36 (Operand.tmp 5), type := 36, pos := "number.go:23", after := #[], guard := none }, { dst := some 12, op := Op.call { callee := Callee.value (Operand.func 24), args := #[Operand.tmp 11], argTypes := #[36] }, type := 36, pos := "number.go:23", after := #[{ on := 1, ground := Ground.data }], guard := none }, { dst := some 13, op := Op.call { callee := Callee.builtin Builtin.len, args := #[Operand.tmp 10], argTypes := #[22] }, type := 3, pos := "number.go:23", after := #[{ on := 0, ground := Ground.data }], guard := none }, { dst := some 14, op := Op.buildSlice 22 1 #[(0, Operand.const (Value.agg #[Value.int IntKind.i64 0, Value.string { data := #[] }, Value.string { data := #[] }, Value.string { data := #[] }, Value.slice none 0 0, Value.slice none 0 0, Value.slice none 0 0, Value.slice none 0 0]))], type := 22, pos := "number.go:23", after := #[], guard := none }, { dst := some 15, op := Op.call { callee := Callee.builtin Builtin.append, args := #[Operand.tmp 10, Operand.tmp 14], argTypes := #[22, 22] }, type := 22, pos := "number.go:23", after := #[{ on := 0, ground := Ground.data }, { on := 4, ground := Ground.data }, { on := 2, ground := Ground.chain }, { on := 0, ground := Ground.phase }, { on := 1, ground := Ground.phase }, { on := 2, ground := Ground.phase }, { on := 3, ground := Ground.phase }, { on := 4, ground := Ground.phase }], guard := none }, { dst := some 16, op := Op.indexAddr 22 (Operand.tmp 15) (Operand.tmp 13), type := 0, pos := "number.go:23", after := #[{ on := 5, ground := Ground.data }, { on := 3, ground := Ground.data }, { on := 0, ground := Ground.phase }, { on := 1, ground := Ground.phase }, { on := 2, ground := Ground.phase }, { on := 3, ground := Ground.phase }, { on := 4, ground := Ground.phase }, { on := 5, ground := Ground.phase }, { on := 8, ground := Ground.gcOnly Departure.appendInPlace }], guard := none }, { dst := none, op := Op.store 36 (Operand.tmp 16) (Operand.tmp 12), type := 0, pos := "number.go:23", after := #[{ on := 6, ground := Ground.data }, { on := 2, ground := Ground.data }, { on := 5, ground := Ground.chain }, { on := 0, ground := Ground.phase }, { on := 1, ground := Ground.phase }, { on := 2, ground := Ground.phase }, { on := 3, ground := Ground.phase }, { on := 4, ground := Ground.phase }, { on := 5, ground := Ground.phase }, { on := 8, ground := Ground.gcOnly Departure.appendInPlace }], guard := none }, { dst := none, op := Op.store 22 (Operand.tmp 3) (Operand.tmp 15), type := 0, pos := "number.go:23", after := #[{ on := 5, ground := Ground.data }, { on := 5, ground := Ground.chain }, { on := 7, ground := Ground.textOnly Departure.appendInPlace }, { on := 0, ground := Ground.phase }, { on := 1, ground := Ground.phase }, { on := 2, ground := Ground.phase }, { on := 3, ground := Ground.phase }, { on := 4, ground := Ground.phase }, { on := 5, ground := Ground.phase }, { on := 6, ground := Ground.textOnly Departure.appendInPlace }, { on := 7, ground := Ground.textOnly Departure.appendInPlace }], guard := none }]
theorem lop0 : listOps[0]? = some { dst := some 10, op := Op.load 22 (Operand.tmp 3), type := 22, pos := "number.go:23", after := #[], guard := none } := rfl
theorem lop1 : listOps[1]? = some { dst := some 11, op := Op.load 36 (Operand.tmp 5), type := 36, pos := "number.go:23", after := #[], guard := none } := rfl
theorem lop2 : listOps[2]? = some { dst := some 12, op := Op.call { callee := Callee.value (Operand.func 24), args := #[Operand.tmp 11], argTypes := #[36] }, type := 36, pos := "number.go:23", after := #[{ on := 1, ground := Ground.data }], guard := none } := rfl
theorem lop3 : listOps[3]? = some { dst := some 13, op := Op.call { callee := Callee.builtin Builtin.len, args := #[Operand.tmp 10], argTypes := #[22] }, type := 3, pos := "number.go:23", after := #[{ on := 0, ground := Ground.data }], guard := none } := rfl
theorem lop4 : listOps[4]? = some { dst := some 14, op := Op.buildSlice 22 1 #[(0, Operand.const (Value.agg #[Value.int IntKind.i64 0, Value.string { data := #[] }, Value.string { data := #[] }, Value.string { data := #[] }, Value.slice none 0 0, Value.slice none 0 0, Value.slice none 0 0, Value.slice none 0 0]))], type := 22, pos := "number.go:23", after := #[], guard := none } := rfl
theorem lop5 : listOps[5]? = some { dst := some 15, op := Op.call { callee := Callee.builtin Builtin.append, args := #[Operand.tmp 10, Operand.tmp 14], argTypes := #[22, 22] }, type := 22, pos := "number.go:23", after := #[{ on := 0, ground := Ground.data }, { on := 4, ground := Ground.data }, { on := 2, ground := Ground.chain }, { on := 0, ground := Ground.phase }, { on := 1, ground := Ground.phase }, { on := 2, ground := Ground.phase }, { on := 3, ground := Ground.phase }, { on := 4, ground := Ground.phase }], guard := none } := rfl
theorem lop6 : listOps[6]? = some { dst := some 16, op := Op.indexAddr 22 (Operand.tmp 15) (Operand.tmp 13), type := 0, pos := "number.go:23", after := #[{ on := 5, ground := Ground.data }, { on := 3, ground := Ground.data }, { on := 0, ground := Ground.phase }, { on := 1, ground := Ground.phase }, { on := 2, ground := Ground.phase }, { on := 3, ground := Ground.phase }, { on := 4, ground := Ground.phase }, { on := 5, ground := Ground.phase }, { on := 8, ground := Ground.gcOnly Departure.appendInPlace }], guard := none } := rfl
theorem lop7 : listOps[7]? = some { dst := none, op := Op.store 36 (Operand.tmp 16) (Operand.tmp 12), type := 0, pos := "number.go:23", after := #[{ on := 6, ground := Ground.data }, { on := 2, ground := Ground.data }, { on := 5, ground := Ground.chain }, { on := 0, ground := Ground.phase }, { on := 1, ground := Ground.phase }, { on := 2, ground := Ground.phase }, { on := 3, ground := Ground.phase }, { on := 4, ground := Ground.phase }, { on := 5, ground := Ground.phase }, { on := 8, ground := Ground.gcOnly Departure.appendInPlace }], guard := none } := rfl
theorem lop8 : listOps[8]? = some { dst := none, op := Op.store 22 (Operand.tmp 3) (Operand.tmp 15), type := 0, pos := "number.go:23", after := #[{ on := 5, ground := Ground.data }, { on := 5, ground := Ground.chain }, { on := 7, ground := Ground.textOnly Departure.appendInPlace }, { on := 0, ground := Ground.phase }, { on := 1, ground := Ground.phase }, { on := 2, ground := Ground.phase }, { on := 3, ground := Ground.phase }, { on := 4, ground := Ground.phase }, { on := 5, ground := Ground.phase }, { on := 6, ground := Ground.textOnly Departure.appendInPlace }, { on := 7, ground := Ground.textOnly Departure.appendInPlace }], guard := none } := rfl

/-- a statement's lists, copied -/
def Cop (w : World) (X : Nat → Prop) (d : M.Nd) (q1 : Option Addr) (m1 : Nat) (q2 : Option Addr) (m2 : Nat) (q3 : Option Addr) (m3 : Nat) (q4 : Option Addr) (m4 : Nat) : Prop :=
  OpsAt w X (.slice q1 d.a.length m1) d.a ∧ StrsAt w X (.slice q2 d.pr.length m2) d.pr ∧ StmAt w X (.slice q3 d.th.len m3) d.th ∧ StmAt w X (.slice q4 d.el.len m4) d.el
theorem Cop.keep {w w' : World} {X : Nat → Prop} {d : M.Nd} {q1 q2 q3 q4 : Option Addr} {m1 m2 m3 m4 : Nat} (h : Cop w X d q1 m1 q2 m2 q3 m3 q4 m4) (k : Keep X w w') : Cop w' X d q1 m1 q2 m2 q3 m3 q4 m4 := ⟨SlAt.keep h.1 k, SlAt.keep h.2.1 k, StmAt.keep h.2.2.1 k, StmAt.keep h.2.2.2 k⟩
theorem Cop.weak {w : World} {X Y : Nat → Prop} {d : M.Nd} {q1 q2 q3 q4 : Option Addr} {m1 m2 m3 m4 : Nat} (h : Cop w X d q1 m1 q2 m2 q3 m3 q4 m4) (k : ∀ b, b < w.heap.size → ¬ X b → ¬ Y b) : Cop w Y d q1 m1 q2 m2 q3 m3 q4 m4 := ⟨SlAt.weak h.1 k, SlAt.weak h.2.1 k, StmAt.weak h.2.2.1 k, StmAt.weak h.2.2.2 k⟩
/-- eight empty cells, in a new block -/
def Zb (W w : World) (z : Nat) : Prop := W.heap.size ≤ z ∧ w.heap[z]? = some (.cells #[.int .i64 0, .string ⟨#[]⟩, .string ⟨#[]⟩, .string ⟨#[]⟩, .slice none 0 0, .slice none 0 0, .slice none 0 0, .slice none 0 0] 36 (0, 0))
theorem Zb.bel {W w w' : World} {z : Nat} (h : Zb W w z) (hb : Below w.heap.size w w') : Zb W w' z := ⟨h.1, kept hb h.2⟩

theorem stepIn_append {F : Fence} {n : Nat} {P : Program} {w w' : World} {o : Oper} {a : Act} {K : Act → World → Prop} {Q : Exit → Act → World → Prop} {ops : Array Oper} (hgd : o.guard = none) (s x : Operand) (t : TypeId)
    (ho : o.op = .call { callee := .builtin .append, args := #[s, x], argTypes := #[t, t] }) (v u v' : Value) (hs : a.eval s = v) (hx : a.eval x = u) (hr : (Builtin.append_ #[t, t] o.type #[v, u]).run P w = .ok v' w') (hK : K (a.put o.dst v') w') :
    if Region.wanted o (yielded ops a.tmps) = true then Oper.wpIn F n P o a w K Q else (∀ f, o.about P w a.eval = some f → F.fn f) ∧ K (a.put o.dst undef) w := by
  have hw : Region.wanted o (yielded ops a.tmps) = true := by simp [Region.wanted, hgd]
  rw [if_pos hw]
  unfold Oper.wpIn
  refine ⟨by simp [Oper.about, ho, resolve, Target.leads, Sem.run_pure], ?_⟩
  rw [Oper.semAt_plain F _ _ (by rw [ho]; intro c hc'; cases hc')]
  simp [execOp, ho, resolve, invoke, builtin, hs, hx, hr, Result.andThen]
  exact hK
theorem zcells {w : World} {z : Nat} (h : w.heap[z]? = some (.cells #[.int .i64 0, .string ⟨#[]⟩, .string ⟨#[]⟩, .string ⟨#[]⟩, .slice none 0 0, .slice none 0 0, .slice none 0 0, .slice none 0 0] 36 (0, 0))) : ∀ (j : Nat) u, ([.int .i64 0, .string ⟨#[]⟩, .string ⟨#[]⟩, .string ⟨#[]⟩, .slice none 0 0, .slice none 0 0, .slice none 0 0, .slice none 0 0] : List Value)[j]? = some u → w.cell? ((⟨z, 0, none⟩ : Addr).add j) = some u := by
  intro j u hu
  rw [add0, Lib.cell_of_heap h]
  rw [Nat.zero_add]
  simpa using hu
theorem ownsRow_form8 {w : World} {base e k : Nat} {v : Value} {vs : List Value} (h : w.ownsRow base e 8 v (k + 1) vs) : ∃ g cap, v = .slice (some ⟨g, 0, none⟩) (k + 1) cap := by
  rcases h.2 with ⟨h2, h3⟩ | ⟨g', cap', cur, e1, _⟩
  · cases h3
  · exact ⟨g', cap', e1⟩

set_option maxRecDepth 16000 in
set_option maxHeartbeats 8000000 in
theorem listRegion (l : Nat) (Q : Exit → Act → World → Prop) (t0 t1 t2 t4 t6 t7 t8 t9 t17 : Value) (c0 sb base n cap : Nat) (W : World) (lq : Option Addr) (cells : List Value) (d : M.Nd) (qa qp qt qe : Option Addr) (ma mp mt me : Nat)
    (hbox : W.heap[c0]? = some (.cells #[.slice lq n cap] 22 (0, 0))) (hs : W.heap[sb]? = some (.cells #[.int .i64 d.op, .string d.x, .string d.y, .string d.p, .slice qa d.a.length ma, .slice qp d.pr.length mp, .slice qt d.th.len mt, .slice qe d.el.len me] 36 (0, 0)))
    (hrow : W.ownsRow base 36 8 (.slice lq n cap) n cells) (hbase : base ≤ W.heap.size) (hne : ∀ g, (Value.slice lq n cap).ownBlock = some g → g ≠ c0) (hn : n ≤ 4294967296)
    (hcop : ∀ w, Below W.heap.size W w → Calls Try.prog 24 #[.agg #[.int .i64 d.op, .string d.x, .string d.y, .string d.p, .slice qa d.a.length ma, .slice qp d.pr.length mp, .slice qt d.th.len mt, .slice qe d.el.len me]] w fun e w' => ∃ q1 m1 q2 m2 q3 m3 q4 m4, e = .returned (.agg #[.int .i64 d.op, .string d.x, .string d.y, .string d.p, .slice q1 d.a.length m1, .slice q2 d.pr.length m2, .slice q3 d.th.len m3, .slice q4 d.el.len m4]) ∧ Cop w' (Old w) d q1 m1 q2 m2 q3 m3 q4 m4 ∧ Below w.heap.size w w')
    (hQ : ∀ w' g cap' q1 m1 q2 m2 q3 m3 q4 m4 (a : Act), Turn (fun k => k = c0 ∨ (Value.slice lq n cap).ownBlock = some k) W w' → w'.heap[c0]? = some (.cells #[.slice (some ⟨g, 0, none⟩) (n + 1) cap'] 22 (0, 0)) → w'.ownsRow base 36 8 (.slice (some ⟨g, 0, none⟩) (n + 1) cap') (n + 1) (cells ++ [.int .i64 d.op, .string d.x, .string d.y, .string d.p, .slice q1 d.a.length m1, .slice q2 d.pr.length m2, .slice q3 d.th.len m3, .slice q4 d.el.len m4]) →
      ((Value.slice lq n cap).ownBlock = some g ∨ W.heap.size ≤ g) → Cop w' (fun b => b < W.heap.size ∨ b = g) d q1 m1 q2 m2 q3 m3 q4 m4 → Q .normal a w') :
    wpAnyIn (Fence.wide.inRound l) 2 Try.prog .any listOps Q 9 #[false, false, false, false, false, false, false, false, false] { tmps := #[t0, t1, t2, .pointer (some ⟨c0, 0, none⟩), t4, .pointer (some ⟨sb, 0, none⟩), t6, t7, t8, t9, undef, undef, undef, undef, undef, undef, undef, t17], defers := [] } W := by
  obtain ⟨i0, hi, hz0, hz1, hz2⟩ := info_parts infoStmt
  have s012345678 : ∀ (w : World) (z g cap2 : Nat) (q1 : Option Addr) (m1 : Nat) (q2 : Option Addr) (m2 : Nat) (q3 : Option Addr) (m3 : Nat) (q4 : Option Addr) (m4 : Nat), Turn (fun k => k = c0 ∨ (Value.slice lq n cap).ownBlock = some k) W w ∧ w.ownsRow base 36 8 (.slice (some ⟨g, 0, none⟩) (n + 1) cap2) (n + 1) (cells ++ [.int .i64 d.op, .string d.x, .string d.y, .string d.p, .slice q1 d.a.length m1, .slice q2 d.pr.length m2, .slice q3 d.th.len m3, .slice q4 d.el.len m4]) ∧ ((Value.slice lq n cap).ownBlock = some g ∨ W.heap.size ≤ g) ∧ g ≠ c0 ∧ Cop w (fun b => b < W.heap.size ∨ b = g) d q1 m1 q2 m2 q3 m3 q4 m4 ∧ w.heap[c0]? = some (.cells #[.slice (some ⟨g, 0, none⟩) (n + 1) cap2] 22 (0, 0)) → wpAnyIn (Fence.wide.inRound l) 2 Try.prog .any listOps Q 0 #[true, true, true, true, true, true, true, true, true] { tmps := #[t0, t1, t2, .pointer (some ⟨c0, 0, none⟩), t4, .pointer (some ⟨sb, 0, none⟩), t6, t7, t8, t9, .slice lq n cap, .agg #[.int .i64 d.op, .string d.x, .string d.y, .string d.p, .slice qa d.a.length ma, .slice qp d.pr.length mp, .slice qt d.th.len mt, .slice qe d.el.len me], .agg #[.int .i64 d.op, .string d.x, .string d.y, .string d.p, .slice q1 d.a.length m1, .slice q2 d.pr.length m2, .slice q3 d.th.len m3, .slice q4 d.el.len m4], .int .i64 n, .slice (some ⟨z, 0, none⟩) 1 1, .slice (some ⟨g, 0, none⟩) (n + 1) cap2, .pointer (some ⟨g, n * 8, none⟩), t17], defers := [] } w := by
    rintro w z g cap2 q1 m1 q2 m2 q3 m3 q4 m4 ⟨f1, f2, f3, f4, f5, f6⟩
    exact wpAnyIn_done (by kernel_rfl) (hQ w g cap2 q1 m1 q2 m2 q3 m3 q4 m4 _ f1 f6 f2 f3 f5) _
  have s01234567 : ∀ (w : World) (z g cap2 : Nat) (q1 : Option Addr) (m1 : Nat) (q2 : Option Addr) (m2 : Nat) (q3 : Option Addr) (m3 : Nat) (q4 : Option Addr) (m4 : Nat), Turn (fun k => (Value.slice lq n cap).ownBlock = some k) W w ∧ w.ownsRow base 36 8 (.slice (some ⟨g, 0, none⟩) (n + 1) cap2) (n + 1) (cells ++ [.int .i64 d.op, .string d.x, .string d.y, .string d.p, .slice q1 d.a.length m1, .slice q2 d.pr.length m2, .slice q3 d.th.len m3, .slice q4 d.el.len m4]) ∧ ((Value.slice lq n cap).ownBlock = some g ∨ W.heap.size ≤ g) ∧ g ≠ c0 ∧ Cop w (fun b => b < W.heap.size ∨ b = g) d q1 m1 q2 m2 q3 m3 q4 m4 → wpAnyIn (Fence.wide.inRound l) 2 Try.prog .any listOps Q 1 #[true, true, true, true, true, true, true, true, false] { tmps := #[t0, t1, t2, .pointer (some ⟨c0, 0, none⟩), t4, .pointer (some ⟨sb, 0, none⟩), t6, t7, t8, t9, .slice lq n cap, .agg #[.int .i64 d.op, .string d.x, .string d.y, .string d.p, .slice qa d.a.length ma, .slice qp d.pr.length mp, .slice qt d.th.len mt, .slice qe d.el.len me], .agg #[.int .i64 d.op, .string d.x, .string d.y, .string d.p, .slice q1 d.a.length m1, .slice q2 d.pr.length m2, .slice q3 d.th.len m3, .slice q4 d.el.len m4], .int .i64 n, .slice (some ⟨z, 0, none⟩) 1 1, .slice (some ⟨g, 0, none⟩) (n + 1) cap2, .pointer (some ⟨g, n * 8, none⟩), t17], defers := [] } w := by
    rintro w z g cap2 q1 m1 q2 m2 q3 m3 q4 m4 ⟨f1, f2, f3, f4, f5⟩
    refine wpAnyIn_ready (rs := [8]) (by kernel_rfl) (by simp) ?_
    refine AllReadyIn.cons lop8 (fun K hK => ?_) ?_
    · have hb1 : w.heap[c0]? = some (.cells #[.slice lq n cap] 22 (0, 0)) := (f1.block c0 (Array.getElem?_eq_some_iff.1 hbox).1 (fun h => hne _ h rfl)).trans hbox
      have g0 := cell0 hb1
      have g1 := Lib.frozen_of_heap hb1 0
      go_simp
      refine hK _ _ ?_
      clear hK K
      have hcl : c0 < W.heap.size := (Array.getElem?_eq_some_iff.1 hbox).1
      exact s012345678 _ z g cap2 q1 m1 q2 m2 q3 m3 q4 m4 ⟨(f1.mono (fun k h => .inr h)).setCell (p := ⟨c0, 0, none⟩) (.inl (.inl rfl)) _, row_keep8 f2 (Below.heap_setCell _ _ _ _ f4), f3, f4, f5.keep (keep_set (p := ⟨c0, 0, none⟩) (.inl hcl) _), heap_set1 hb1⟩
    exact AllReadyIn.nil
  have s01234568 : ∀ (w : World) (z g cap2 : Nat) (q1 : Option Addr) (m1 : Nat) (q2 : Option Addr) (m2 : Nat) (q3 : Option Addr) (m3 : Nat) (q4 : Option Addr) (m4 : Nat), Turn (fun k => k = c0 ∨ (Value.slice lq n cap).ownBlock = some k) W w ∧ w.ownsRow base 36 8 (.slice (some ⟨g, 0, none⟩) (n + 1) cap2) (n + 1) (cells ++ [.int .i64 0, .string ⟨#[]⟩, .string ⟨#[]⟩, .string ⟨#[]⟩, .slice none 0 0, .slice none 0 0, .slice none 0 0, .slice none 0 0]) ∧ ((Value.slice lq n cap).ownBlock = some g ∨ W.heap.size ≤ g) ∧ g ≠ c0 ∧ Cop w (fun b => b < W.heap.size ∨ b = g) d q1 m1 q2 m2 q3 m3 q4 m4 ∧ w.heap[c0]? = some (.cells #[.slice (some ⟨g, 0, none⟩) (n + 1) cap2] 22 (0, 0)) → wpAnyIn (Fence.wide.inRound l) 2 Try.prog .any listOps Q 1 #[true, true, true, true, true, true, true, false, true] { tmps := #[t0, t1, t2, .pointer (some ⟨c0, 0, none⟩), t4, .pointer (some ⟨sb, 0, none⟩), t6, t7, t8, t9, .slice lq n cap, .agg #[.int .i64 d.op, .string d.x, .string d.y, .string d.p, .slice qa d.a.length ma, .slice qp d.pr.length mp, .slice qt d.th.len mt, .slice qe d.el.len me], .agg #[.int .i64 d.op, .string d.x, .string d.y, .string d.p, .slice q1 d.a.length m1, .slice q2 d.pr.length m2, .slice q3 d.th.len m3, .slice q4 d.el.len m4], .int .i64 n, .slice (some ⟨z, 0, none⟩) 1 1, .slice (some ⟨g, 0, none⟩) (n + 1) cap2, .pointer (some ⟨g, n * 8, none⟩), t17], defers := [] } w := by
    rintro w z g cap2 q1 m1 q2 m2 q3 m3 q4 m4 ⟨f1, f2, f3, f4, f5, f6⟩
    refine wpAnyIn_ready (rs := [7]) (by kernel_rfl) (by simp) ?_
    refine AllReadyIn.cons lop7 (fun K hK => ?_) ?_
    · have hcl : cells.length = n * 8 := hrow.1
      obtain ⟨x0, x1, x2, x3, x4, x5, x6, x7⟩ := own8 (rest := []) f2 hcl (Nat.lt_succ_self n)
      have hfz := f2.frozenAt
      go_simp
      refine hK _ _ ?_
      clear hK K
      have hr := row_put8 (rest := []) f2 hcl (.int .i64 d.op) (.string d.x) (.string d.y) (.string d.p) (.slice q1 d.a.length m1) (.slice q2 d.pr.length m2) (.slice q3 d.th.len m3) (.slice q4 d.el.len m4)
      rw [List.append_nil] at hr
      have hgT : (g = c0 ∨ (Value.slice lq n cap).ownBlock = some g) ∨ W.heap.size ≤ g := (f3.elim (fun h => .inl (.inr h)) .inr)
      have hgc : c0 ≠ g := Ne.symm f4
      exact s012345678 _ z g cap2 q1 m1 q2 m2 q3 m3 q4 m4 ⟨((((((((f1.setCell (p := ⟨g, n * 8, none⟩) hgT _).setCell (p := ⟨g, n * 8 + 1, none⟩) hgT _).setCell (p := ⟨g, n * 8 + 2, none⟩) hgT _).setCell (p := ⟨g, n * 8 + 3, none⟩) hgT _).setCell (p := ⟨g, n * 8 + 4, none⟩) hgT _).setCell (p := ⟨g, n * 8 + 5, none⟩) hgT _).setCell (p := ⟨g, n * 8 + 6, none⟩) hgT _).setCell (p := ⟨g, n * 8 + 7, none⟩) hgT _), hr, f3, f4, f5.keep ((((((((keep_set (X := fun b => b < W.heap.size ∨ b = g) (p := ⟨g, n * 8, none⟩) (.inr rfl) _).trans (keep_set (p := ⟨g, n * 8 + 1, none⟩) (.inr rfl) _)).trans (keep_set (p := ⟨g, n * 8 + 2, none⟩) (.inr rfl) _)).trans (keep_set (p := ⟨g, n * 8 + 3, none⟩) (.inr rfl) _)).trans (keep_set (p := ⟨g, n * 8 + 4, none⟩) (.inr rfl) _)).trans (keep_set (p := ⟨g, n * 8 + 5, none⟩) (.inr rfl) _)).trans (keep_set (p := ⟨g, n * 8 + 6, none⟩) (.inr rfl) _)).trans (keep_set (p := ⟨g, n * 8 + 7, none⟩) (.inr rfl) _)), heap_set (heap_set (heap_set (heap_set (heap_set (heap_set (heap_set (heap_set f6 hgc) hgc) hgc) hgc) hgc) hgc) hgc) hgc⟩
    exact AllReadyIn.nil
  have s0123458 : ∀ (w : World) (z g cap2 : Nat) (q1 : Option Addr) (m1 : Nat) (q2 : Option Addr) (m2 : Nat) (q3 : Option Addr) (m3 : Nat) (q4 : Option Addr) (m4 : Nat), Turn (fun k => k = c0 ∨ (Value.slice lq n cap).ownBlock = some k) W w ∧ w.ownsRow base 36 8 (.slice (some ⟨g, 0, none⟩) (n + 1) cap2) (n + 1) (cells ++ [.int .i64 0, .string ⟨#[]⟩, .string ⟨#[]⟩, .string ⟨#[]⟩, .slice none 0 0, .slice none 0 0, .slice none 0 0, .slice none 0 0]) ∧ ((Value.slice lq n cap).ownBlock = some g ∨ W.heap.size ≤ g) ∧ g ≠ c0 ∧ Cop w (fun b => b < W.heap.size ∨ b = g) d q1 m1 q2 m2 q3 m3 q4 m4 ∧ w.heap[c0]? = some (.cells #[.slice (some ⟨g, 0, none⟩) (n + 1) cap2] 22 (0, 0)) → wpAnyIn (Fence.wide.inRound l) 2 Try.prog .any listOps Q 2 #[true, true, true, true, true, true, false, false, true] { tmps := #[t0, t1, t2, .pointer (some ⟨c0, 0, none⟩), t4, .pointer (some ⟨sb, 0, none⟩), t6, t7, t8, t9, .slice lq n cap, .agg #[.int .i64 d.op, .string d.x, .string d.y, .string d.p, .slice qa d.a.length ma, .slice qp d.pr.length mp, .slice qt d.th.len mt, .slice qe d.el.len me], .agg #[.int .i64 d.op, .string d.x, .string d.y, .string d.p, .slice q1 d.a.length m1, .slice q2 d.pr.length m2, .slice q3 d.th.len m3, .slice q4 d.el.len m4], .int .i64 n, .slice (some ⟨z, 0, none⟩) 1 1, .slice (some ⟨g, 0, none⟩) (n + 1) cap2, undef, t17], defers := [] } w := by
    rintro w z g cap2 q1 m1 q2 m2 q3 m3 q4 m4 ⟨f1, f2, f3, f4, f5, f6⟩
    have hsm : (n : Int) < (n : Int) + 1 := by omega
    refine wpAnyIn_ready (rs := [6]) (by kernel_rfl) (by simp) ?_
    refine AllReadyIn.cons lop6 (fun K hK => ?_) ?_
    · go_simp
      refine hK _ _ ?_
      clear hK K
      exact s01234568 w z g cap2 q1 m1 q2 m2 q3 m3 q4 m4 ⟨f1, f2, f3, f4, f5, f6⟩
    exact AllReadyIn.nil
  have s0123456 : ∀ (w : World) (z g cap2 : Nat) (q1 : Option Addr) (m1 : Nat) (q2 : Option Addr) (m2 : Nat) (q3 : Option Addr) (m3 : Nat) (q4 : Option Addr) (m4 : Nat), Turn (fun k => (Value.slice lq n cap).ownBlock = some k) W w ∧ w.ownsRow base 36 8 (.slice (some ⟨g, 0, none⟩) (n + 1) cap2) (n + 1) (cells ++ [.int .i64 0, .string ⟨#[]⟩, .string ⟨#[]⟩, .string ⟨#[]⟩, .slice none 0 0, .slice none 0 0, .slice none 0 0, .slice none 0 0]) ∧ ((Value.slice lq n cap).ownBlock = some g ∨ W.heap.size ≤ g) ∧ g ≠ c0 ∧ Cop w (fun b => b < W.heap.size ∨ b = g) d q1 m1 q2 m2 q3 m3 q4 m4 → wpAnyIn (Fence.wide.inRound l) 2 Try.prog .any listOps Q 2 #[true, true, true, true, true, true, true, false, false] { tmps := #[t0, t1, t2, .pointer (some ⟨c0, 0, none⟩), t4, .pointer (some ⟨sb, 0, none⟩), t6, t7, t8, t9, .slice lq n cap, .agg #[.int .i64 d.op, .string d.x, .string d.y, .string d.p, .slice qa d.a.length ma, .slice qp d.pr.length mp, .slice qt d.th.len mt, .slice qe d.el.len me], .agg #[.int .i64 d.op, .string d.x, .string d.y, .string d.p, .slice q1 d.a.length m1, .slice q2 d.pr.length m2, .slice q3 d.th.len m3, .slice q4 d.el.len m4], .int .i64 n, .slice (some ⟨z, 0, none⟩) 1 1, .slice (some ⟨g, 0, none⟩) (n + 1) cap2, .pointer (some ⟨g, n * 8, none⟩), t17], defers := [] } w := by
    rintro w z g cap2 q1 m1 q2 m2 q3 m3 q4 m4 ⟨f1, f2, f3, f4, f5⟩
    refine wpAnyIn_ready (rs := [7, 8]) (by kernel_rfl) (by simp) ?_
    refine AllReadyIn.cons lop7 (fun K hK => ?_) ?_
    · have hcl : cells.length = n * 8 := hrow.1
      obtain ⟨x0, x1, x2, x3, x4, x5, x6, x7⟩ := own8 (rest := []) f2 hcl (Nat.lt_succ_self n)
      have hfz := f2.frozenAt
      go_simp
      refine hK _ _ ?_
      clear hK K
      have hr := row_put8 (rest := []) f2 hcl (.int .i64 d.op) (.string d.x) (.string d.y) (.string d.p) (.slice q1 d.a.length m1) (.slice q2 d.pr.length m2) (.slice q3 d.th.len m3) (.slice q4 d.el.len m4)
      rw [List.append_nil] at hr
      have hgT : (Value.slice lq n cap).ownBlock = some g ∨ W.heap.size ≤ g := (f3.elim (fun h => .inl h) .inr)
      exact s01234567 _ z g cap2 q1 m1 q2 m2 q3 m3 q4 m4 ⟨((((((((f1.setCell (p := ⟨g, n * 8, none⟩) hgT _).setCell (p := ⟨g, n * 8 + 1, none⟩) hgT _).setCell (p := ⟨g, n * 8 + 2, none⟩) hgT _).setCell (p := ⟨g, n * 8 + 3, none⟩) hgT _).setCell (p := ⟨g, n * 8 + 4, none⟩) hgT _).setCell (p := ⟨g, n * 8 + 5, none⟩) hgT _).setCell (p := ⟨g, n * 8 + 6, none⟩) hgT _).setCell (p := ⟨g, n * 8 + 7, none⟩) hgT _), hr, f3, f4, f5.keep ((((((((keep_set (X := fun b => b < W.heap.size ∨ b = g) (p := ⟨g, n * 8, none⟩) (.inr rfl) _).trans (keep_set (p := ⟨g, n * 8 + 1, none⟩) (.inr rfl) _)).trans (keep_set (p := ⟨g, n * 8 + 2, none⟩) (.inr rfl) _)).trans (keep_set (p := ⟨g, n * 8 + 3, none⟩) (.inr rfl) _)).trans (keep_set (p := ⟨g, n * 8 + 4, none⟩) (.inr rfl) _)).trans (keep_set (p := ⟨g, n * 8 + 5, none⟩) (.inr rfl) _)).trans (keep_set (p := ⟨g, n * 8 + 6, none⟩) (.inr rfl) _)).trans (keep_set (p := ⟨g, n * 8 + 7, none⟩) (.inr rfl) _))⟩
    refine AllReadyIn.cons lop8 (fun K hK => ?_) ?_
    · have hb1 : w.heap[c0]? = some (.cells #[.slice lq n cap] 22 (0, 0)) := (f1.block c0 (Array.getElem?_eq_some_iff.1 hbox).1 (fun h => hne _ h rfl)).trans hbox
      have g0 := cell0 hb1
      have g1 := Lib.frozen_of_heap hb1 0
      go_simp
      refine hK _ _ ?_
      clear hK K
      have hcl : c0 < W.heap.size := (Array.getElem?_eq_some_iff.1 hbox).1
      exact s01234568 _ z g cap2 q1 m1 q2 m2 q3 m3 q4 m4 ⟨(f1.mono (fun k h => .inr h)).setCell (p := ⟨c0, 0, none⟩) (.inl (.inl rfl)) _, row_keep8 f2 (Below.heap_setCell _ _ _ _ f4), f3, f4, f5.keep (keep_set (p := ⟨c0, 0, none⟩) (.inl hcl) _), heap_set1 hb1⟩
    exact AllReadyIn.nil
  have s012345 : ∀ (w : World) (z g cap2 : Nat) (q1 : Option Addr) (m1 : Nat) (q2 : Option Addr) (m2 : Nat) (q3 : Option Addr) (m3 : Nat) (q4 : Option Addr) (m4 : Nat), Turn (fun k => (Value.slice lq n cap).ownBlock = some k) W w ∧ w.ownsRow base 36 8 (.slice (some ⟨g, 0, none⟩) (n + 1) cap2) (n + 1) (cells ++ [.int .i64 0, .string ⟨#[]⟩, .string ⟨#[]⟩, .string ⟨#[]⟩, .slice none 0 0, .slice none 0 0, .slice none 0 0, .slice none 0 0]) ∧ ((Value.slice lq n cap).ownBlock = some g ∨ W.heap.size ≤ g) ∧ g ≠ c0 ∧ Cop w (fun b => b < W.heap.size ∨ b = g) d q1 m1 q2 m2 q3 m3 q4 m4 → wpAnyIn (Fence.wide.inRound l) 2 Try.prog .any listOps Q 3 #[true, true, true, true, true, true, false, false, false] { tmps := #[t0, t1, t2, .pointer (some ⟨c0, 0, none⟩), t4, .pointer (some ⟨sb, 0, none⟩), t6, t7, t8, t9, .slice lq n cap, .agg #[.int .i64 d.op, .string d.x, .string d.y, .string d.p, .slice qa d.a.length ma, .slice qp d.pr.length mp, .slice qt d.th.len mt, .slice qe d.el.len me], .agg #[.int .i64 d.op, .string d.x, .string d.y, .string d.p, .slice q1 d.a.length m1, .slice q2 d.pr.length m2, .slice q3 d.th.len m3, .slice q4 d.el.len m4], .int .i64 n, .slice (some ⟨z, 0, none⟩) 1 1, .slice (some ⟨g, 0, none⟩) (n + 1) cap2, undef, t17], defers := [] } w := by
    rintro w z g cap2 q1 m1 q2 m2 q3 m3 q4 m4 ⟨f1, f2, f3, f4, f5⟩
    have hsm : (n : Int) < (n : Int) + 1 := by omega
    refine wpAnyIn_ready (rs := [6, 8]) (by kernel_rfl) (by simp) ?_
    refine AllReadyIn.cons lop6 (fun K hK => ?_) ?_
    · go_simp
      refine hK _ _ ?_
      clear hK K
      exact s0123456 w z g cap2 q1 m1 q2 m2 q3 m3 q4 m4 ⟨f1, f2, f3, f4, f5⟩
    refine AllReadyIn.cons lop8 (fun K hK => ?_) ?_
    · have hb1 : w.heap[c0]? = some (.cells #[.slice lq n cap] 22 (0, 0)) := (f1.block c0 (Array.getElem?_eq_some_iff.1 hbox).1 (fun h => hne _ h rfl)).trans hbox
      have g0 := cell0 hb1
      have g1 := Lib.frozen_of_heap hb1 0
      go_simp
      refine hK _ _ ?_
      clear hK K
      have hcl : c0 < W.heap.size := (Array.getElem?_eq_some_iff.1 hbox).1
      exact s0123458 _ z g cap2 q1 m1 q2 m2 q3 m3 q4 m4 ⟨(f1.mono (fun k h => .inr h)).setCell (p := ⟨c0, 0, none⟩) (.inl (.inl rfl)) _, row_keep8 f2 (Below.heap_setCell _ _ _ _ f4), f3, f4, f5.keep (keep_set (p := ⟨c0, 0, none⟩) (.inl hcl) _), heap_set1 hb1⟩
    exact AllReadyIn.nil
  have s01234 : ∀ (w : World) (z : Nat) (q1 : Option Addr) (m1 : Nat) (q2 : Option Addr) (m2 : Nat) (q3 : Option Addr) (m3 : Nat) (q4 : Option Addr) (m4 : Nat), Below W.heap.size W w → Zb W w z → Cop w (Old W) d q1 m1 q2 m2 q3 m3 q4 m4 → wpAnyIn (Fence.wide.inRound l) 2 Try.prog .any listOps Q 4 #[true, true, true, true, true, false, false, false, false] { tmps := #[t0, t1, t2, .pointer (some ⟨c0, 0, none⟩), t4, .pointer (some ⟨sb, 0, none⟩), t6, t7, t8, t9, .slice lq n cap, .agg #[.int .i64 d.op, .string d.x, .string d.y, .string d.p, .slice qa d.a.length ma, .slice qp d.pr.length mp, .slice qt d.th.len mt, .slice qe d.el.len me], .agg #[.int .i64 d.op, .string d.x, .string d.y, .string d.p, .slice q1 d.a.length m1, .slice q2 d.pr.length m2, .slice q3 d.th.len m3, .slice q4 d.el.len m4], .int .i64 n, .slice (some ⟨z, 0, none⟩) 1 1, undef, undef, t17], defers := [] } w := by
    intro w z q1 m1 q2 m2 q3 m3 q4 m4 hb hz hc
    refine wpAnyIn_ready (rs := [5]) (by kernel_rfl) (by simp) ?_
    refine AllReadyIn.cons lop5 (fun K hK => ?_) ?_
    · have hrw : w.ownsRow base 36 8 (.slice lq n cap) n cells := hrow.kept (row := none) ⟨hb.os, hb.tape, hb.output, hb.size, fun k hk _ => hb.block k hk⟩ (by cases h : (Value.slice lq n cap).ownBlock <;> simp)
      obtain ⟨v', w', hrun, ho', hgr, _, hbl⟩ := run_append_own_at (P := Try.prog) w base 22 22 36 i0 (.agg #[.int .i64 0, .string ⟨#[]⟩, .string ⟨#[]⟩, .string ⟨#[]⟩, .slice none 0 0, .slice none 0 0, .slice none 0 0, .slice none 0 0]) 8 152 Try.underlying22 hi hz0 hz1 hz2 rfl (by decide) (.slice lq n cap) n cells hrw ⟨z, 0, none⟩ 1 1 [.int .i64 0, .string ⟨#[]⟩, .string ⟨#[]⟩, .string ⟨#[]⟩, .slice none 0 0, .slice none 0 0, .slice none 0 0, .slice none 0 0] rfl (zcells hz.2) (by simp [Value.oneCell']) (by unfold maxLen; omega) (by omega) (Nat.le_trans hbase hb.size)
      obtain ⟨g, cap2, rfl⟩ := ownsRow_form8 ho'
      refine stepIn_append rfl _ _ 22 rfl (.slice lq n cap) (.slice (some ⟨z, 0, none⟩) 1 1) _ rfl rfl hrun ?_
      refine hK _ _ ?_
      clear hK K
      have hg2 : (Value.slice lq n cap).ownBlock = some g ∨ g = w.heap.size := by
        rcases hbl with h | h
        · left; rw [← h]; rfl
        · right; simpa [Value.ownBlock] using h
      have hcl : c0 < W.heap.size := (Array.getElem?_eq_some_iff.1 hbox).1
      have hlt : ∀ k, (Value.slice lq n cap).ownBlock = some k → k < W.heap.size := fun k h => (hrow.lt k h).2
      have hsz := hb.size
      refine s012345 w' z g cap2 q1 m1 q2 m2 q3 m3 q4 m4 ⟨(Turn.of_below hb).grown hgr (fun k e => .inl e), ho', ?_, ?_, ?_⟩
      · rcases hg2 with h | h
        · exact .inl h
        · exact .inr (by omega)
      · rcases hg2 with h | h
        · exact hne g h
        · omega
      · have h1 : Cop w (fun b => b < W.heap.size ∨ b = g) d q1 m1 q2 m2 q3 m3 q4 m4 := hc.weak (fun b hbl hob h => by
          rcases h with h | h
          · exact hob h
          · subst h
            rcases hg2 with h2 | h2
            · exact hob (hlt b h2)
            · omega)
        exact h1.keep ⟨hgr.size, fun k hk hx => hgr.block k hk (fun e => hx (.inl (hlt k e.symm)))⟩
    exact AllReadyIn.nil
  have s0123 : ∀ (w : World) (q1 : Option Addr) (m1 : Nat) (q2 : Option Addr) (m2 : Nat) (q3 : Option Addr) (m3 : Nat) (q4 : Option Addr) (m4 : Nat), Below W.heap.size W w → Cop w (Old W) d q1 m1 q2 m2 q3 m3 q4 m4 → wpAnyIn (Fence.wide.inRound l) 2 Try.prog .any listOps Q 5 #[true, true, true, true, false, false, false, false, false] { tmps := #[t0, t1, t2, .pointer (some ⟨c0, 0, none⟩), t4, .pointer (some ⟨sb, 0, none⟩), t6, t7, t8, t9, .slice lq n cap, .agg #[.int .i64 d.op, .string d.x, .string d.y, .string d.p, .slice qa d.a.length ma, .slice qp d.pr.length mp, .slice qt d.th.len mt, .slice qe d.el.len me], .agg #[.int .i64 d.op, .string d.x, .string d.y, .string d.p, .slice q1 d.a.length m1, .slice q2 d.pr.length m2, .slice q3 d.th.len m3, .slice q4 d.el.len m4], .int .i64 n, undef, undef, undef, t17], defers := [] } w := by
    intro w q1 m1 q2 m2 q3 m3 q4 m4 hb hc
    refine wpAnyIn_ready (rs := [4]) (by kernel_rfl) (by simp) ?_
    refine AllReadyIn.cons lop4 (fun K hK => ?_) ?_
    · go_simp
      refine hK _ _ ?_
      clear hK K
      have hba : Below w.heap.size w (w.alloc (.cells #[.int .i64 0, .string ⟨#[]⟩, .string ⟨#[]⟩, .string ⟨#[]⟩, .slice none 0 0, .slice none 0 0, .slice none 0 0, .slice none 0 0] 36)) := (Below.refl _ _).alloc (Nat.le_refl _) _
      exact s01234 _ w.heap.size q1 m1 q2 m2 q3 m3 q4 m4 (hb.trans (hba.mono hb.size)) ⟨hb.size, heap_alloc_new w _⟩ (hc.keep (Below.keepX hba))
    exact AllReadyIn.nil
  have s0124 : ∀ (w : World) (z : Nat) (q1 : Option Addr) (m1 : Nat) (q2 : Option Addr) (m2 : Nat) (q3 : Option Addr) (m3 : Nat) (q4 : Option Addr) (m4 : Nat), Below W.heap.size W w → Zb W w z → Cop w (Old W) d q1 m1 q2 m2 q3 m3 q4 m4 → wpAnyIn (Fence.wide.inRound l) 2 Try.prog .any listOps Q 5 #[true, true, true, false, true, false, false, false, false] { tmps := #[t0, t1, t2, .pointer (some ⟨c0, 0, none⟩), t4, .pointer (some ⟨sb, 0, none⟩), t6, t7, t8, t9, .slice lq n cap, .agg #[.int .i64 d.op, .string d.x, .string d.y, .string d.p, .slice qa d.a.length ma, .slice qp d.pr.length mp, .slice qt d.th.len mt, .slice qe d.el.len me], .agg #[.int .i64 d.op, .string d.x, .string d.y, .string d.p, .slice q1 d.a.length m1, .slice q2 d.pr.length m2, .slice q3 d.th.len m3, .slice q4 d.el.len m4], undef, .slice (some ⟨z, 0, none⟩) 1 1, undef, undef, t17], defers := [] } w := by
    intro w z q1 m1 q2 m2 q3 m3 q4 m4 hb hz hc
    refine wpAnyIn_ready (rs := [3]) (by kernel_rfl) (by simp) ?_
    refine AllReadyIn.cons lop3 (fun K hK => ?_) ?_
    · go_simp
      refine hK _ _ ?_
      clear hK K
      exact s01234 w z q1 m1 q2 m2 q3 m3 q4 m4 hb hz hc
    exact AllReadyIn.nil
  have s0134 : ∀ (w : World) (z : Nat), Below W.heap.size W w → Zb W w z → wpAnyIn (Fence.wide.inRound l) 2 Try.prog .any listOps Q 5 #[true, true, false, true, true, false, false, false, false] { tmps := #[t0, t1, t2, .pointer (some ⟨c0, 0, none⟩), t4, .pointer (some ⟨sb, 0, none⟩), t6, t7, t8, t9, .slice lq n cap, .agg #[.int .i64 d.op, .string d.x, .string d.y, .string d.p, .slice qa d.a.length ma, .slice qp d.pr.length mp, .slice qt d.th.len mt, .slice qe d.el.len me], undef, .int .i64 n, .slice (some ⟨z, 0, none⟩) 1 1, undef, undef, t17], defers := [] } w := by
    intro w z hb hz
    refine wpAnyIn_ready (rs := [2]) (by kernel_rfl) (by simp) ?_
    refine AllReadyIn.cons lop2 (fun K hK => ?_) ?_
    · go_simp
      refine ⟨trivial, ?_⟩
      refine (CallsIn.inRound l (callsIn_wide.2 (hcop w hb))).mono ?_
      rintro e w' ⟨q1, m1, q2, m2, q3, m3, q4, m4, rfl, hc, hb2⟩
      simp only []
      refine hK _ _ ?_
      clear hK K
      exact s01234 w' z q1 m1 q2 m2 q3 m3 q4 m4 (hb.trans (hb2.mono hb.size)) (hz.bel hb2) (hc.weak fun b _ h h2 => h (Nat.lt_of_lt_of_le h2 hb.size))
    exact AllReadyIn.nil
  have s012 : ∀ (w : World) (q1 : Option Addr) (m1 : Nat) (q2 : Option Addr) (m2 : Nat) (q3 : Option Addr) (m3 : Nat) (q4 : Option Addr) (m4 : Nat), Below W.heap.size W w → Cop w (Old W) d q1 m1 q2 m2 q3 m3 q4 m4 → wpAnyIn (Fence.wide.inRound l) 2 Try.prog .any listOps Q 6 #[true, true, true, false, false, false, false, false, false] { tmps := #[t0, t1, t2, .pointer (some ⟨c0, 0, none⟩), t4, .pointer (some ⟨sb, 0, none⟩), t6, t7, t8, t9, .slice lq n cap, .agg #[.int .i64 d.op, .string d.x, .string d.y, .string d.p, .slice qa d.a.length ma, .slice qp d.pr.length mp, .slice qt d.th.len mt, .slice qe d.el.len me], .agg #[.int .i64 d.op, .string d.x, .string d.y, .string d.p, .slice q1 d.a.length m1, .slice q2 d.pr.length m2, .slice q3 d.th.len m3, .slice q4 d.el.len m4], undef, undef, undef, undef, t17], defers := [] } w := by
    intro w q1 m1 q2 m2 q3 m3 q4 m4 hb hc
    refine wpAnyIn_ready (rs := [3, 4]) (by kernel_rfl) (by simp) ?_
    refine AllReadyIn.cons lop3 (fun K hK => ?_) ?_
    · go_simp
      refine hK _ _ ?_
      clear hK K
      exact s0123 w q1 m1 q2 m2 q3 m3 q4 m4 hb hc
    refine AllReadyIn.cons lop4 (fun K hK => ?_) ?_
    · go_simp
      refine hK _ _ ?_
      clear hK K
      have hba : Below w.heap.size w (w.alloc (.cells #[.int .i64 0, .string ⟨#[]⟩, .string ⟨#[]⟩, .string ⟨#[]⟩, .slice none 0 0, .slice none 0 0, .slice none 0 0, .slice none 0 0] 36)) := (Below.refl _ _).alloc (Nat.le_refl _) _
      exact s0124 _ w.heap.size q1 m1 q2 m2 q3 m3 q4 m4 (hb.trans (hba.mono hb.size)) ⟨hb.size, heap_alloc_new w _⟩ (hc.keep (Below.keepX hba))
    exact AllReadyIn.nil
  have s013 : ∀ (w : World), Below W.heap.size W w → wpAnyIn (Fence.wide.inRound l) 2 Try.prog .any listOps Q 6 #[true, true, false, true, false, false, false, false, false] { tmps := #[t0, t1, t2, .pointer (some ⟨c0, 0, none⟩), t4, .pointer (some ⟨sb, 0, none⟩), t6, t7, t8, t9, .slice lq n cap, .agg #[.int .i64 d.op, .string d.x, .string d.y, .string d.p, .slice qa d.a.length ma, .slice qp d.pr.length mp, .slice qt d.th.len mt, .slice qe d.el.len me], undef, .int .i64 n, undef, undef, undef, t17], defers := [] } w := by
    intro w hb
    refine wpAnyIn_ready (rs := [2, 4]) (by kernel_rfl) (by simp) ?_
    refine AllReadyIn.cons lop2 (fun K hK => ?_) ?_
    · go_simp
      refine ⟨trivial, ?_⟩
      refine (CallsIn.inRound l (callsIn_wide.2 (hcop w hb))).mono ?_
      rintro e w' ⟨q1, m1, q2, m2, q3, m3, q4, m4, rfl, hc, hb2⟩
      simp only []
      refine hK _ _ ?_
      clear hK K
      exact s0123 w' q1 m1 q2 m2 q3 m3 q4 m4 (hb.trans (hb2.mono hb.size)) (hc.weak fun b _ h h2 => h (Nat.lt_of_lt_of_le h2 hb.size))
    refine AllReadyIn.cons lop4 (fun K hK => ?_) ?_
    · go_simp
      refine hK _ _ ?_
      clear hK K
      have hba : Below w.heap.size w (w.alloc (.cells #[.int .i64 0, .string ⟨#[]⟩, .string ⟨#[]⟩, .string ⟨#[]⟩, .slice none 0 0, .slice none 0 0, .slice none 0 0, .slice none 0 0] 36)) := (Below.refl _ _).alloc (Nat.le_refl _) _
      exact s0134 _ w.heap.size (hb.trans (hba.mono hb.size)) ⟨hb.size, heap_alloc_new w _⟩
    exact AllReadyIn.nil
  have s014 : ∀ (w : World) (z : Nat), Below W.heap.size W w → Zb W w z → wpAnyIn (Fence.wide.inRound l) 2 Try.prog .any listOps Q 6 #[true, true, false, false, true, false, false, false, false] { tmps := #[t0, t1, t2, .pointer (some ⟨c0, 0, none⟩), t4, .pointer (some ⟨sb, 0, none⟩), t6, t7, t8, t9, .slice lq n cap, .agg #[.int .i64 d.op, .string d.x, .string d.y, .string d.p, .slice qa d.a.length ma, .slice qp d.pr.length mp, .slice qt d.th.len mt, .slice qe d.el.len me], undef, undef, .slice (some ⟨z, 0, none⟩) 1 1, undef, undef, t17], defers := [] } w := by
    intro w z hb hz
    refine wpAnyIn_ready (rs := [2, 3]) (by kernel_rfl) (by simp) ?_
    refine AllReadyIn.cons lop2 (fun K hK => ?_) ?_
    · go_simp
      refine ⟨trivial, ?_⟩
      refine (CallsIn.inRound l (callsIn_wide.2 (hcop w hb))).mono ?_
      rintro e w' ⟨q1, m1, q2, m2, q3, m3, q4, m4, rfl, hc, hb2⟩
      simp only []
      refine hK _ _ ?_
      clear hK K
      exact s0124 w' z q1 m1 q2 m2 q3 m3 q4 m4 (hb.trans (hb2.mono hb.size)) (hz.bel hb2) (hc.weak fun b _ h h2 => h (Nat.lt_of_lt_of_le h2 hb.size))
    refine AllReadyIn.cons lop3 (fun K hK => ?_) ?_
    · go_simp
      refine hK _ _ ?_
      clear hK K
      exact s0134 w z hb hz
    exact AllReadyIn.nil
  have s034 : ∀ (w : World) (z : Nat), Below W.heap.size W w → Zb W w z → wpAnyIn (Fence.wide.inRound l) 2 Try.prog .any listOps Q 6 #[true, false, false, true, true, false, false, false, false] { tmps := #[t0, t1, t2, .pointer (some ⟨c0, 0, none⟩), t4, .pointer (some ⟨sb, 0, none⟩), t6, t7, t8, t9, .slice lq n cap, undef, undef, .int .i64 n, .slice (some ⟨z, 0, none⟩) 1 1, undef, undef, t17], defers := [] } w := by
    intro w z hb hz
    refine wpAnyIn_ready (rs := [1]) (by kernel_rfl) (by simp) ?_
    refine AllReadyIn.cons lop1 (fun K hK => ?_) ?_
    · obtain ⟨k0, k1, k2, k3, k4, k5, k6, k7, kf, kz⟩ := cells8 (kept hb hs)
      go_simp
      refine hK _ _ ?_
      clear hK K
      exact s0134 w z hb hz
    exact AllReadyIn.nil
  have s124 : ∀ (w : World) (z : Nat) (q1 : Option Addr) (m1 : Nat) (q2 : Option Addr) (m2 : Nat) (q3 : Option Addr) (m3 : Nat) (q4 : Option Addr) (m4 : Nat), Below W.heap.size W w → Zb W w z → Cop w (Old W) d q1 m1 q2 m2 q3 m3 q4 m4 → wpAnyIn (Fence.wide.inRound l) 2 Try.prog .any listOps Q 6 #[false, true, true, false, true, false, false, false, false] { tmps := #[t0, t1, t2, .pointer (some ⟨c0, 0, none⟩), t4, .pointer (some ⟨sb, 0, none⟩), t6, t7, t8, t9, undef, .agg #[.int .i64 d.op, .string d.x, .string d.y, .string d.p, .slice qa d.a.length ma, .slice qp d.pr.length mp, .slice qt d.th.len mt, .slice qe d.el.len me], .agg #[.int .i64 d.op, .string d.x, .string d.y, .string d.p, .slice q1 d.a.length m1, .slice q2 d.pr.length m2, .slice q3 d.th.len m3, .slice q4 d.el.len m4], undef, .slice (some ⟨z, 0, none⟩) 1 1, undef, undef, t17], defers := [] } w := by
    intro w z q1 m1 q2 m2 q3 m3 q4 m4 hb hz hc
    refine wpAnyIn_ready (rs := [0]) (by kernel_rfl) (by simp) ?_
    refine AllReadyIn.cons lop0 (fun K hK => ?_) ?_
    · have g0 := cell0 (kept hb hbox)
      go_simp
      refine hK _ _ ?_
      clear hK K
      exact s0124 w z q1 m1 q2 m2 q3 m3 q4 m4 hb hz hc
    exact AllReadyIn.nil
  have s01 : ∀ (w : World), Below W.heap.size W w → wpAnyIn (Fence.wide.inRound l) 2 Try.prog .any listOps Q 7 #[true, true, false, false, false, false, false, false, false] { tmps := #[t0, t1, t2, .pointer (some ⟨c0, 0, none⟩), t4, .pointer (some ⟨sb, 0, none⟩), t6, t7, t8, t9, .slice lq n cap, .agg #[.int .i64 d.op, .string d.x, .string d.y, .string d.p, .slice qa d.a.length ma, .slice qp d.pr.length mp, .slice qt d.th.len mt, .slice qe d.el.len me], undef, undef, undef, undef, undef, t17], defers := [] } w := by
    intro w hb
    refine wpAnyIn_ready (rs := [2, 3, 4]) (by kernel_rfl) (by simp) ?_
    refine AllReadyIn.cons lop2 (fun K hK => ?_) ?_
    · go_simp
      refine ⟨trivial, ?_⟩
      refine (CallsIn.inRound l (callsIn_wide.2 (hcop w hb))).mono ?_
      rintro e w' ⟨q1, m1, q2, m2, q3, m3, q4, m4, rfl, hc, hb2⟩
      simp only []
      refine hK _ _ ?_
      clear hK K
      exact s012 w' q1 m1 q2 m2 q3 m3 q4 m4 (hb.trans (hb2.mono hb.size)) (hc.weak fun b _ h h2 => h (Nat.lt_of_lt_of_le h2 hb.size))
    refine AllReadyIn.cons lop3 (fun K hK => ?_) ?_
    · go_simp
      refine hK _ _ ?_
      clear hK K
      exact s013 w hb
    refine AllReadyIn.cons lop4 (fun K hK => ?_) ?_
    · go_simp
      refine hK _ _ ?_
      clear hK K
      have hba : Below w.heap.size w (w.alloc (.cells #[.int .i64 0, .string ⟨#[]⟩, .string ⟨#[]⟩, .string ⟨#[]⟩, .slice none 0 0, .slice none 0 0, .slice none 0 0, .slice none 0 0] 36)) := (Below.refl _ _).alloc (Nat.le_refl _) _
      exact s014 _ w.heap.size (hb.trans (hba.mono hb.size)) ⟨hb.size, heap_alloc_new w _⟩
    exact AllReadyIn.nil
  have s03 : ∀ (w : World), Below W.heap.size W w → wpAnyIn (Fence.wide.inRound l) 2 Try.prog .any listOps Q 7 #[true, false, false, true, false, false, false, false, false] { tmps := #[t0, t1, t2, .pointer (some ⟨c0, 0, none⟩), t4, .pointer (some ⟨sb, 0, none⟩), t6, t7, t8, t9, .slice lq n cap, undef, undef, .int .i64 n, undef, undef, undef, t17], defers := [] } w := by
    intro w hb
    refine wpAnyIn_ready (rs := [1, 4]) (by kernel_rfl) (by simp) ?_
    refine AllReadyIn.cons lop1 (fun K hK => ?_) ?_
    · obtain ⟨k0, k1, k2, k3, k4, k5, k6, k7, kf, kz⟩ := cells8 (kept hb hs)
      go_simp
      refine hK _ _ ?_
      clear hK K
      exact s013 w hb
    refine AllReadyIn.cons lop4 (fun K hK => ?_) ?_
    · go_simp
      refine hK _ _ ?_
      clear hK K
      have hba : Below w.heap.size w (w.alloc (.cells #[.int .i64 0, .string ⟨#[]⟩, .string ⟨#[]⟩, .string ⟨#[]⟩, .slice none 0 0, .slice none 0 0, .slice none 0 0, .slice none 0 0] 36)) := (Below.refl _ _).alloc (Nat.le_refl _) _
      exact s034 _ w.heap.size (hb.trans (hba.mono hb.size)) ⟨hb.size, heap_alloc_new w _⟩
    exact AllReadyIn.nil
  have s04 : ∀ (w : World) (z : Nat), Below W.heap.size W w → Zb W w z → wpAnyIn (Fence.wide.inRound l) 2 Try.prog .any listOps Q 7 #[true, false, false, false, true, false, false, false, false] { tmps := #[t0, t1, t2, .pointer (some ⟨c0, 0, none⟩), t4, .pointer (some ⟨sb, 0, none⟩), t6, t7, t8, t9, .slice lq n cap, undef, undef, undef, .slice (some ⟨z, 0, none⟩) 1 1, undef, undef, t17], defers := [] } w := by
    intro w z hb hz
    refine wpAnyIn_ready (rs := [1, 3]) (by kernel_rfl) (by simp) ?_
    refine AllReadyIn.cons lop1 (fun K hK => ?_) ?_
    · obtain ⟨k0, k1, k2, k3, k4, k5, k6, k7, kf, kz⟩ := cells8 (kept hb hs)
      go_simp
      refine hK _ _ ?_
      clear hK K
      exact s014 w z hb hz
    refine AllReadyIn.cons lop3 (fun K hK => ?_) ?_
    · go_simp
      refine hK _ _ ?_
      clear hK K
      exact s034 w z hb hz
    exact AllReadyIn.nil
  have s12 : ∀ (w : World) (q1 : Option Addr) (m1 : Nat) (q2 : Option Addr) (m2 : Nat) (q3 : Option Addr) (m3 : Nat) (q4 : Option Addr) (m4 : Nat), Below W.heap.size W w → Cop w (Old W) d q1 m1 q2 m2 q3 m3 q4 m4 → wpAnyIn (Fence.wide.inRound l) 2 Try.prog .any listOps Q 7 #[false, true, true, false, false, false, false, false, false] { tmps := #[t0, t1, t2, .pointer (some ⟨c0, 0, none⟩), t4, .pointer (some ⟨sb, 0, none⟩), t6, t7, t8, t9, undef, .agg #[.int .i64 d.op, .string d.x, .string d.y, .string d.p, .slice qa d.a.length ma, .slice qp d.pr.length mp, .slice qt d.th.len mt, .slice qe d.el.len me], .agg #[.int .i64 d.op, .string d.x, .string d.y, .string d.p, .slice q1 d.a.length m1, .slice q2 d.pr.length m2, .slice q3 d.th.len m3, .slice q4 d.el.len m4], undef, undef, undef, undef, t17], defers := [] } w := by
    intro w q1 m1 q2 m2 q3 m3 q4 m4 hb hc
    refine wpAnyIn_ready (rs := [0, 4]) (by kernel_rfl) (by simp) ?_
    refine AllReadyIn.cons lop0 (fun K hK => ?_) ?_
    · have g0 := cell0 (kept hb hbox)
      go_simp
      refine hK _ _ ?_
      clear hK K
      exact s012 w q1 m1 q2 m2 q3 m3 q4 m4 hb hc
    refine AllReadyIn.cons lop4 (fun K hK => ?_) ?_
    · go_simp
      refine hK _ _ ?_
      clear hK K
      have hba : Below w.heap.size w (w.alloc (.cells #[.int .i64 0, .string ⟨#[]⟩, .string ⟨#[]⟩, .string ⟨#[]⟩, .slice none 0 0, .slice none 0 0, .slice none 0 0, .slice none 0 0] 36)) := (Below.refl _ _).alloc (Nat.le_refl _) _
      exact s124 _ w.heap.size q1 m1 q2 m2 q3 m3 q4 m4 (hb.trans (hba.mono hb.size)) ⟨hb.size, heap_alloc_new w _⟩ (hc.keep (Below.keepX hba))
    exact AllReadyIn.nil
  have s14 : ∀ (w : World) (z : Nat), Below W.heap.size W w → Zb W w z → wpAnyIn (Fence.wide.inRound l) 2 Try.prog .any listOps Q 7 #[false, true, false, false, true, false, false, false, false] { tmps := #[t0, t1, t2, .pointer (some ⟨c0, 0, none⟩), t4, .pointer (some ⟨sb, 0, none⟩), t6, t7, t8, t9, undef, .agg #[.int .i64 d.op, .string d.x, .string d.y, .string d.p, .slice qa d.a.length ma, .slice qp d.pr.length mp, .slice qt d.th.len mt, .slice qe d.el.len me], undef, undef, .slice (some ⟨z, 0, none⟩) 1 1, undef, undef, t17], defers := [] } w := by
    intro w z hb hz
    refine wpAnyIn_ready (rs := [0, 2]) (by kernel_rfl) (by simp) ?_
    refine AllReadyIn.cons lop0 (fun K hK => ?_) ?_
    · have g0 := cell0 (kept hb hbox)
      go_simp
      refine hK _ _ ?_
      clear hK K
      exact s014 w z hb hz
    refine AllReadyIn.cons lop2 (fun K hK => ?_) ?_
    · go_simp
      refine ⟨trivial, ?_⟩
      refine (CallsIn.inRound l (callsIn_wide.2 (hcop w hb))).mono ?_
      rintro e w' ⟨q1, m1, q2, m2, q3, m3, q4, m4, rfl, hc, hb2⟩
      simp only []
      refine hK _ _ ?_
      clear hK K
      exact s124 w' z q1 m1 q2 m2 q3 m3 q4 m4 (hb.trans (hb2.mono hb.size)) (hz.bel hb2) (hc.weak fun b _ h h2 => h (Nat.lt_of_lt_of_le h2 hb.size))
    exact AllReadyIn.nil
  have s0 : ∀ (w : World), Below W.heap.size W w → wpAnyIn (Fence.wide.inRound l) 2 Try.prog .any listOps Q 8 #[true, false, false, false, false, false, false, false, false] { tmps := #[t0, t1, t2, .pointer (some ⟨c0, 0, none⟩), t4, .pointer (some ⟨sb, 0, none⟩), t6, t7, t8, t9, .slice lq n cap, undef, undef, undef, undef, undef, undef, t17], defers := [] } w := by
    intro w hb
    refine wpAnyIn_ready (rs := [1, 3, 4]) (by kernel_rfl) (by simp) ?_
    refine AllReadyIn.cons lop1 (fun K hK => ?_) ?_
    · obtain ⟨k0, k1, k2, k3, k4, k5, k6, k7, kf, kz⟩ := cells8 (kept hb hs)
      go_simp
      refine hK _ _ ?_
      clear hK K
      exact s01 w hb
    refine AllReadyIn.cons lop3 (fun K hK => ?_) ?_
    · go_simp
      refine hK _ _ ?_
      clear hK K
      exact s03 w hb
    refine AllReadyIn.cons lop4 (fun K hK => ?_) ?_
    · go_simp
      refine hK _ _ ?_
      clear hK K
      have hba : Below w.heap.size w (w.alloc (.cells #[.int .i64 0, .string ⟨#[]⟩, .string ⟨#[]⟩, .string ⟨#[]⟩, .slice none 0 0, .slice none 0 0, .slice none 0 0, .slice none 0 0] 36)) := (Below.refl _ _).alloc (Nat.le_refl _) _
      exact s04 _ w.heap.size (hb.trans (hba.mono hb.size)) ⟨hb.size, heap_alloc_new w _⟩
    exact AllReadyIn.nil
  have s1 : ∀ (w : World), Below W.heap.size W w → wpAnyIn (Fence.wide.inRound l) 2 Try.prog .any listOps Q 8 #[false, true, false, false, false, false, false, false, false] { tmps := #[t0, t1, t2, .pointer (some ⟨c0, 0, none⟩), t4, .pointer (some ⟨sb, 0, none⟩), t6, t7, t8, t9, undef, .agg #[.int .i64 d.op, .string d.x, .string d.y, .string d.p, .slice qa d.a.length ma, .slice qp d.pr.length mp, .slice qt d.th.len mt, .slice qe d.el.len me], undef, undef, undef, undef, undef, t17], defers := [] } w := by
    intro w hb
    refine wpAnyIn_ready (rs := [0, 2, 4]) (by kernel_rfl) (by simp) ?_
    refine AllReadyIn.cons lop0 (fun K hK => ?_) ?_
    · have g0 := cell0 (kept hb hbox)
      go_simp
      refine hK _ _ ?_
      clear hK K
      exact s01 w hb
    refine AllReadyIn.cons lop2 (fun K hK => ?_) ?_
    · go_simp
      refine ⟨trivial, ?_⟩
      refine (CallsIn.inRound l (callsIn_wide.2 (hcop w hb))).mono ?_
      rintro e w' ⟨q1, m1, q2, m2, q3, m3, q4, m4, rfl, hc, hb2⟩
      simp only []
      refine hK _ _ ?_
      clear hK K
      exact s12 w' q1 m1 q2 m2 q3 m3 q4 m4 (hb.trans (hb2.mono hb.size)) (hc.weak fun b _ h h2 => h (Nat.lt_of_lt_of_le h2 hb.size))
    refine AllReadyIn.cons lop4 (fun K hK => ?_) ?_
    · go_simp
      refine hK _ _ ?_
      clear hK K
      have hba : Below w.heap.size w (w.alloc (.cells #[.int .i64 0, .string ⟨#[]⟩, .string ⟨#[]⟩, .string ⟨#[]⟩, .slice none 0 0, .slice none 0 0, .slice none 0 0, .slice none 0 0] 36)) := (Below.refl _ _).alloc (Nat.le_refl _) _
      exact s14 _ w.heap.size (hb.trans (hba.mono hb.size)) ⟨hb.size, heap_alloc_new w _⟩
    exact AllReadyIn.nil
  have s4 : ∀ (w : World) (z : Nat), Below W.heap.size W w → Zb W w z → wpAnyIn (Fence.wide.inRound l) 2 Try.prog .any listOps Q 8 #[false, false, false, false, true, false, false, false, false] { tmps := #[t0, t1, t2, .pointer (some ⟨c0, 0, none⟩), t4, .pointer (some ⟨sb, 0, none⟩), t6, t7, t8, t9, undef, undef, undef, undef, .slice (some ⟨z, 0, none⟩) 1 1, undef, undef, t17], defers := [] } w := by
    intro w z hb hz
    refine wpAnyIn_ready (rs := [0, 1]) (by kernel_rfl) (by simp) ?_
    refine AllReadyIn.cons lop0 (fun K hK => ?_) ?_
    · have g0 := cell0 (kept hb hbox)
      go_simp
      refine hK _ _ ?_
      clear hK K
      exact s04 w z hb hz
    refine AllReadyIn.cons lop1 (fun K hK => ?_) ?_
    · obtain ⟨k0, k1, k2, k3, k4, k5, k6, k7, kf, kz⟩ := cells8 (kept hb hs)
      go_simp
      refine hK _ _ ?_
      clear hK K
      exact s14 w z hb hz
    exact AllReadyIn.nil
  have se : ∀ (w : World), Below W.heap.size W w → wpAnyIn (Fence.wide.inRound l) 2 Try.prog .any listOps Q 9 #[false, false, false, false, false, false, false, false, false] { tmps := #[t0, t1, t2, .pointer (some ⟨c0, 0, none⟩), t4, .pointer (some ⟨sb, 0, none⟩), t6, t7, t8, t9, undef, undef, undef, undef, undef, undef, undef, t17], defers := [] } w := by
    intro w hb
    refine wpAnyIn_ready (rs := [0, 1, 4]) (by kernel_rfl) (by simp) ?_
    refine AllReadyIn.cons lop0 (fun K hK => ?_) ?_
    · have g0 := cell0 (kept hb hbox)
      go_simp
      refine hK _ _ ?_
      clear hK K
      exact s0 w hb
    refine AllReadyIn.cons lop1 (fun K hK => ?_) ?_
    · obtain ⟨k0, k1, k2, k3, k4, k5, k6, k7, kf, kz⟩ := cells8 (kept hb hs)
      go_simp
      refine hK _ _ ?_
      clear hK K
      exact s1 w hb
    refine AllReadyIn.cons lop4 (fun K hK => ?_) ?_
    · go_simp
      refine hK _ _ ?_
      clear hK K
      have hba : Below w.heap.size w (w.alloc (.cells #[.int .i64 0, .string ⟨#[]⟩, .string ⟨#[]⟩, .string ⟨#[]⟩, .slice none 0 0, .slice none 0 0, .slice none 0 0, .slice none 0 0] 36)) := (Below.refl _ _).alloc (Nat.le_refl _) _
      exact s4 _ w.heap.size (hb.trans (hba.mono hb.size)) ⟨hb.size, heap_alloc_new w _⟩
    exact AllReadyIn.nil
  exact se W (Below.refl _ _)
end Go.Proofs.Ytcjmjdgcehmigaa
