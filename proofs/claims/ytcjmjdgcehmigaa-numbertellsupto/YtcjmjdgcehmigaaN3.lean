/-
  The walk of number.numbered and of the function that it answers: it tells the statements by their numbers, one by one. No conditions.
-/
import Derived.Test.YtcjmjdgcehmigaaN1
import Derived.Test.YtcjmjdgcehmigaaN2
import Derived.Shelf.Abstract
import Derived.OwnWalkIn
import Derived.TacticsInMore
import Derived.LoopNIn
import Derived.LoopIn
import Derived.Maps.OwnIn
import Derived.Laws.OwnMore
set_option linter.unusedVariables false
set_option linter.unusedSimpArgs false
namespace Go.Proofs.Ytcjmjdgcehmigaa
open Go.RowKit Go.Shelf
attribute [local go_sem] Oper.semAt_some

/-- a statement as it is told: with its lists in memory -/
structure It where
  nd : M.Nd
  va : Value
  vp : Value
  vt : Value
  ve : Value
def It.val (x : It) : Value := .agg #[.int .i64 x.nd.op, .string x.nd.x, .string x.nd.y, .string x.nd.p, x.va, x.vp, x.vt, x.ve]
def It.at (w : World) (x : It) : Prop := OpsAt w NoX x.va x.nd.a ∧ StrsAt w NoX x.vp x.nd.pr ∧ StmAt w NoX x.vt x.nd.th ∧ StmAt w NoX x.ve x.nd.el
def It.enc (i : Nat) (x : It) : Array Value := #[.int .i64 i, x.val]

/-- lists of statements in memory, one each -/
def Stk (w : World) (vs : List Value) (L : List M.Tr) : Prop := vs.length = L.length ∧ ∀ (i : Nat) v t, vs[i]? = some v → L[i]? = some t → StmAt w NoX v t
theorem Stk.snoc {w : World} {vs : List Value} {L : List M.Tr} {v : Value} {t : M.Tr} (h : Stk w vs L) (k : StmAt w NoX v t) : Stk w (vs ++ [v]) (L ++ [t]) := by
  obtain ⟨h1, h2⟩ := h
  refine ⟨by simp [h1], fun i u s hu hs => ?_⟩
  by_cases hi : i < vs.length
  · rw [List.getElem?_append_left hi] at hu
    rw [List.getElem?_append_left (by omega)] at hs
    exact h2 i u s hu hs
  · rw [List.getElem?_append_right (by omega)] at hu hs
    by_cases e : i - vs.length = 0
    · have e' : i - L.length = 0 := by omega
      rw [e] at hu; rw [e'] at hs
      simp at hu hs; subst hu; subst hs; exact k
    · have : (i - vs.length) ≥ 1 := by omega
      rw [List.getElem?_eq_none (by simpa using this)] at hu; cases hu
theorem Stk.unsnoc {w : World} {vs : List Value} {L : List M.Tr} {t : M.Tr} (h : Stk w vs (L ++ [t])) : ∃ us v, vs = us ++ [v] ∧ Stk w us L ∧ StmAt w NoX v t := by
  obtain ⟨h1, h2⟩ := h
  rcases List.eq_nil_or_concat vs with rfl | ⟨us, v, rfl⟩
  · simp at h1
  · simp at h1
    refine ⟨us, v, by simp, ⟨h1, fun i u s hu hs => h2 i u s ?_ ?_⟩, h2 us.length v t (by simp) (by rw [h1]; simp)⟩
    · rw [List.concat_eq_append, List.getElem?_append_left (List.getElem?_eq_some_iff.1 hu).1]; exact hu
    · rw [List.getElem?_append_left (List.getElem?_eq_some_iff.1 hs).1]; exact hs
theorem row_pop {w : World} {base e g k cap : Nat} {vs : List Value} {v : Value} (h : w.ownsRow base e 1 (.slice (some ⟨g, 0, none⟩) (k + 1) cap) (k + 1) (vs ++ [v])) : w.ownsRow base e 1 (.slice (some ⟨g, 0, none⟩) k cap) k vs := by
  obtain ⟨h1, h2⟩ := h
  simp at h1
  refine ⟨by simp [h1], .inr ?_⟩
  rcases h2 with ⟨h2, _⟩ | ⟨g', cap', cur, e1, hb, hh, hc, hm, hs, ht⟩
  · cases h2
  · simp only [Value.slice.injEq, Option.some.injEq, Addr.mk.injEq, and_true, true_and] at e1
    obtain ⟨rfl, rfl⟩ := e1
    refine ⟨g, cap, cur, rfl, hb, hh, by omega, hm, hs, ?_⟩
    have : (cur.toList.take ((k + 1) * 1)).take k = (vs ++ [v]).take k := by rw [ht]
    rw [List.take_take, Nat.min_eq_left (by omega)] at this
    rw [Nat.mul_one, this, ← h1]; simp

theorem row_cap {w : World} {base e g k cap : Nat} {vs : List Value} (h : w.ownsRow base e 1 (.slice (some ⟨g, 0, none⟩) k cap) k vs) : k ≤ cap ∧ cap ≤ maxLen ∧ base ≤ g ∧ g < w.heap.size := by
  rcases h.2 with ⟨h2, _⟩ | ⟨g', cap', cur, e1, hb, hh, hc, hm, hs, ht⟩
  · cases h2
  · simp only [Value.slice.injEq, Option.some.injEq, Addr.mk.injEq, and_true, true_and] at e1
    obtain ⟨rfl, rfl⟩ := e1
    exact ⟨hc, hm, hb, (Array.getElem?_eq_some_iff.1 hh).1⟩
theorem row_same {w w' : World} {base e g k cap : Nat} {vs : List Value} (h : w.ownsRow base e 1 (.slice (some ⟨g, 0, none⟩) k cap) k vs) (hs : w'.heap[g]? = w.heap[g]?) : w'.ownsRow base e 1 (.slice (some ⟨g, 0, none⟩) k cap) k vs := by
  refine ⟨h.1, .inr ?_⟩
  rcases h.2 with ⟨h2, _⟩ | ⟨g', cap', cur, e1, hb, hh, hc⟩
  · cases h2
  · simp only [Value.slice.injEq, Option.some.injEq, Addr.mk.injEq, and_true, true_and] at e1
    obtain ⟨rfl, rfl⟩ := e1
    exact ⟨g, cap, cur, rfl, hb, hs.trans hh, hc⟩
theorem row_some {w : World} {base e k : Nat} {v : Value} {vs : List Value} (h : w.ownsRow base e 1 v (k + 1) vs) : ∃ g cap, v = .slice (some ⟨g, 0, none⟩) (k + 1) cap := by
  rcases h.2 with ⟨h2, h3⟩ | ⟨g', cap', cur, e1, _⟩
  · cases h3
  · exact ⟨g', cap', e1⟩
theorem newcells2 (W : World) (a b : Value) {e : TypeId} : ∀ (j : Nat) u, [a, b][j]? = some u → (W.alloc (.cells #[a, b] e)).cell? ((⟨W.heap.size, 0, none⟩ : Addr).add j) = some u := by
  intro j u hu
  rw [add0]
  match j, hu with
  | 0, hu => simp at hu; subst hu; rw [Lib.cell_of_heap (heap_alloc_new W _)]; rfl
  | 1, hu => simp at hu; subst hu; rw [Lib.cell_of_heap (heap_alloc_new W _)]; rfl
  | j + 2, hu => simp at hu
theorem infoS : (Try.prog.info? 22).map (fun i => (i.zero, i.size, i.bytes)) = some (some (.slice none 0 0), 1, 24) := by kernel_rfl

set_option maxRecDepth 16000 in
set_option maxHeartbeats 4000000 in
theorem numbered1_in (l Bn : Nat) (w0 W : World) (v : Value) (t : M.Tr) (J Jx : List M.Nd → (Nat → Prop) → World → Prop) (hv : StmAt w0 NoX v t) (hN : (M.nodes t).length ≤ 4294967296)
    (hJ : Ab J) (hJx : Ab Jx) (hb : Below w0.heap.size w0 W) (hbox : W.cell? ⟨Bn, 0, none⟩ = some v)
    (hY : ∀ pre x post X W1, M.nodes t = pre ++ It.nd x :: post → It.at w0 x → (∀ k, X k → w0.heap.size ≤ k ∧ k < W1.heap.size) → Below w0.heap.size w0 W1 → J pre X W1 → YieldAt Fence.wide 2 Try.prog l (It.enc pre.length x) W1 fun e W' =>
      Below w0.heap.size w0 W' ∧ ((e = .returned (.bool true) ∧ J (pre ++ [x.nd]) X W' ∧ KeepX X W1 W') ∨ (e = .returned (.bool false) ∧ Jx (pre ++ [x.nd]) X W')))
    (h0 : J [] (fun _ => False) W) :
    CallsIn Fence.wide 3 Try.prog 28 #[.func (.yield l) #[] #[], .pointer (some ⟨Bn, 0, none⟩)] W fun e W' => (∃ v, e = .returned v) ∧ ((∃ X, J (M.nodes t) X W') ∨ (∃ pre X, Jx pre X W')) := by
  obtain ⟨i0, hi, hz0, hz1, hz2⟩ := info_parts infoS
  obtain ⟨va, vc, rfl⟩ := StmAt.form hv
  refine callsIn_of_wp Try.func28 rfl trivial ?_ rfl
  simp only [Try.ntmps28, List.size_toArray, List.length_cons, List.length_nil, Nat.reduceAdd, Nat.reduceSub, Array.replicate_succ, Array.replicate_zero, List.push_toArray, List.append_toArray, List.nil_append, List.cons_append]
  gi_wp2
  gi_loopw [3, 4] (fun n rest wr => ∃ (pre : List M.Nd) (L : List M.Tr) (vs : List Value) (X : Nat → Prop) (g cap : Nat), n = .int .i64 pre.length ∧ rest = .slice (some ⟨g, 0, none⟩) L.length cap ∧ X g ∧ (∀ k, X k → w0.heap.size ≤ k ∧ k < wr.heap.size) ∧ Below w0.heap.size w0 wr ∧ wr.ownsRow w0.heap.size 22 1 (.slice (some ⟨g, 0, none⟩) L.length cap) L.length vs ∧ Stk w0 vs L ∧ L.length ≤ 2 * pre.length + 1 ∧ M.nodes t = pre ++ M.todo L ∧ J pre X wr) (fun n rest _ => 3 * ((M.nodes t).length - (intOf n).toNat) + (match rest with | .slice _ k _ => k | _ => 0))
  case atStart =>
    have ht : Turn (fun _ => False) W (W.alloc (.cells #[.slice va t.len vc] 22)) := (Turn.refl _ _).alloc _
    have hs := hb.size
    refine ⟨[], [t], [.slice va t.len vc], fun k => k = W.heap.size, W.heap.size, 1, rfl, rfl, rfl, fun k e => by subst e; exact ⟨hs, by simp⟩, ht.below hb hs (fun _ h => h.elim), ?_, ⟨rfl, fun i v' t' h1 h2 => ?_⟩, by simp, by simp [M.todo], hJ _ _ _ _ _ h0 ht (fun k e => .inr (by omega))⟩
    · have := World.ownsRow_lit (base := w0.heap.size) (e := 22) (size := 1) W #[.slice va t.len vc] 1 hs (by simp [maxLen]) rfl
      simpa using this
    · cases i with
      | zero => simp at h1 h2; subst h1; subst h2; exact hv
      | succ i => simp at h1
  case round =>
    obtain ⟨pre, L, vs, X, g, cap, rfl, rfl, hXg, hX, hB, hrow, hst, hL, HT, hj⟩ := hrel
    have HTT := hid HT
    clear HT
    rcases List.eq_nil_or_concat L with rfl | ⟨L', t', rfl⟩
    · gi_wp2
      go_end0
      refine ⟨⟨_, rfl⟩, .inl ⟨X, ?_⟩⟩
      have := HTT.out
      rw [M.todo_nil, List.append_nil] at this
      rw [this]; exact hj
    · rw [List.concat_eq_append] at hrow hst hL HTT ⊢
      obtain ⟨us, u, rfl, hst', hu⟩ := hst.unsnoc
      have hul := hst'.1
      have hlen : (L' ++ [t']).length = L'.length + 1 := by simp
      rw [hlen] at hrow hL ⊢
      clear hlen
      have hcu : wr.cell? ⟨g, L'.length, none⟩ = some u := by
        rw [hrow.cellAt L'.length (by omega), ← hul]; simp
      obtain ⟨ua, uc, rfl⟩ := StmAt.form hu
      have hpl : pre.length ≤ 4294967296 := by have := congrArg List.length HTT.out; simp only [List.length_append] at this; omega
      obtain ⟨hc1, hc2, hg1, hg2⟩ := row_cap hrow
      have hc2' := hc2
      unfold maxLen at hc2'
      have hfz := hrow.frozenAt
      cases t' with
      | nil =>
        simp only [M.Tr.len] at hcu
        gi_wp2
        go_roundw
        case rel => exact ⟨pre, L', us, X, g, cap, rfl, rfl, hXg, hX, hB, row_pop hrow, hst', by omega, by rw [HTT.out, M.todo_snoc]; rfl, hj⟩
        case measure => simp
      | cons op x y p a pr th el nx =>
        obtain ⟨cs, ⟨l1, b1, cap1, he, g1⟩, row1⟩ := hu
        simp only [Value.slice.injEq, true_and] at he
        obtain ⟨rfl, rfl⟩ := he
        rcases g1 with ⟨g1, _⟩ | ⟨ub, uo, rfl, hlt1, ⟨_, hcw, hcx⟩, hcs⟩
        · simp [M.Tr.len] at g1
        obtain ⟨va1, vp1, vt1, ve1, ct1, ce1, rest1, e1, gA1, gP1, gT1, gE1, gN1⟩ := row1
        obtain ⟨f0, f1, f2, f3, f4, f5, f6, f7, fr⟩ := eight (j := 0) hcs e1
        simp only [Nat.zero_mul, Nat.add_zero] at f0 f1 f2 f3 f4 f5 f6 f7
        have hbc := fun (o : Nat) => hB.cell (p := ⟨ub, o, none⟩) hlt1
        rw [← hbc] at f0 f1 f2 f3 f4 f5 f6 f7
        clear hbc
        have gT1' : StmAt w0 NoX vt1 th := ⟨ct1, gT1.1, gT1.2⟩
        have gE1' : StmAt w0 NoX ve1 el := ⟨ce1, gE1.1, gE1.2⟩
        obtain ⟨q1, m1, rfl⟩ := SlAt.form gA1
        obtain ⟨q3, m3, rfl⟩ := SlAt.form gP1
        obtain ⟨q5, m5, rfl⟩ := StmAt.form gT1'
        obtain ⟨q7, m7, rfl⟩ := StmAt.form gE1'
        simp only [M.Tr.len] at hcu hcw l1
        have hcx' := hcx
        unfold maxLen at hcx'
        have hnx1 : StmAt w0 NoX (.slice (some ⟨ub, uo + 8, none⟩) nx.len (uc - 1)) nx := by
          refine ⟨rest1, ⟨by omega, _, _, rfl, .inr ⟨ub, uo + 8, rfl, hlt1, ⟨fun h => h, by omega, by omega⟩, fun i u hu => ?_⟩⟩, gN1⟩
          rw [Nat.add_assoc]; exact hcs _ _ (by rw [← fr] at hu; rw [List.getElem?_drop] at hu; simpa using hu)
        have hnx2 : uc = 1 → StmAt w0 NoX (.slice (some ⟨ub, uo, none⟩) nx.len 0) nx := fun e => by
          obtain rfl := len_nil (t := nx) (by omega)
          exact ⟨[], ⟨by simp [M.Tr.len], _, _, rfl, .inl ⟨rfl, rfl⟩⟩, rfl⟩
        obtain ⟨Y, hY0⟩ : ∃ Y : Nat → Prop, Y = fun k => X k ∨ k = wr.heap.size := ⟨_, rfl⟩
        have hYg : Y g := by rw [hY0]; exact .inl hXg
        have hYs : Y wr.heap.size := by rw [hY0]; exact .inr rfl
        have prep : Hid (∀ nv, StmAt w0 NoX nv nx → ∃ W1, W1 = (wr.setCell ⟨g, L'.length, none⟩ nv).alloc (.cells #[.int .i64 op, .string x, .string y, .string p, .slice q1 a.length m1, .slice q3 pr.length m3, .slice q5 th.len m5, .slice q7 el.len m7] 36) ∧
            W1.ownsRow w0.heap.size 22 1 (.slice (some ⟨g, 0, none⟩) (L'.length + 1) cap) (L'.length + 1) (us ++ [nv]) ∧ W1.heap[wr.heap.size]? = some (.cells #[.int .i64 op, .string x, .string y, .string p, .slice q1 a.length m1, .slice q3 pr.length m3, .slice q5 th.len m5, .slice q7 el.len m7] 36 (0, 0)) ∧
            (∀ k, Y k → w0.heap.size ≤ k ∧ k < W1.heap.size) ∧
            ∃ fn tmps assign body, (Instr.yield l #[.int .i64 (pre.length : Int), .agg #[.int .i64 op, .string x, .string y, .string p, .slice q1 a.length m1, .slice q3 pr.length m3, .slice q5 th.len m5, .slice q7 el.len m7]]).run Try.prog W1 = .ok (.round l fn tmps assign body) W1 ∧ RoundIn Fence.wide 2 Try.prog l fn tmps assign body W1 fun e W' =>
              Below w0.heap.size w0 W' ∧ ((e = .returned (.bool true) ∧ J (pre ++ [⟨op, x, y, p, a, pr, th, el⟩]) Y W' ∧ KeepX Y W1 W') ∨ (e = .returned (.bool false) ∧ Jx (pre ++ [⟨op, x, y, p, a, pr, th, el⟩]) Y W'))) := by
          intro nv hnv
          have hs := hB.size
          have ht : Turn X wr ((wr.setCell ⟨g, L'.length, none⟩ nv).alloc (.cells #[.int .i64 op, .string x, .string y, .string p, .slice q1 a.length m1, .slice q3 pr.length m3, .slice q5 th.len m5, .slice q7 el.len m7] 36)) := ((Turn.refl _ _).setCell (p := ⟨g, L'.length, none⟩) (.inl hXg) _).alloc _
          have hb1 := ht.below hB hs (fun k h => (hX k h).1)
          have hYb : ∀ k, Y k → w0.heap.size ≤ k ∧ k < ((wr.setCell ⟨g, L'.length, none⟩ nv).alloc (.cells #[.int .i64 op, .string x, .string y, .string p, .slice q1 a.length m1, .slice q3 pr.length m3, .slice q5 th.len m5, .slice q7 el.len m7] 36)).heap.size := fun k h => by
            rw [hY0] at h
            rcases h with h | h
            · exact ⟨(hX k h).1, by have := (hX k h).2; simp; omega⟩
            · subst h; exact ⟨hs, by simp⟩
          refine ⟨_, rfl, ?_, ?_, hYb, ?_⟩
          · have := (hrow.stored L'.length nv).1.alloc (.cells #[.int .i64 op, .string x, .string y, .string p, .slice q1 a.length m1, .slice q3 pr.length m3, .slice q5 th.len m5, .slice q7 el.len m7] 36)
            rw [← hul, List.set_append_right _ _ (Nat.le_refl _), Nat.sub_self] at this
            rw [← hul]; simpa using this
          · have := heap_alloc_new (wr.setCell ⟨g, L'.length, none⟩ nv) (.cells #[.int .i64 op, .string x, .string y, .string p, .slice q1 a.length m1, .slice q3 pr.length m3, .slice q5 th.len m5, .slice q7 el.len m7] 36)
            simpa using this
          · exact hY pre ⟨⟨op, x, y, p, a, pr, th, el⟩, .slice q1 a.length m1, .slice q3 pr.length m3, .slice q5 th.len m5, .slice q7 el.len m7⟩ (M.nodes th ++ (M.nodes el ++ M.nodes nx) ++ M.todo L') Y _ (by rw [HTT.out, M.todo_snoc]; simp [M.nodes]) ⟨gA1, gP1, gT1', gE1'⟩ hYb hb1 (hJ _ _ _ _ _ hj ht (fun k h => by rw [hY0] at h; rcases h with h | h; exact .inl h; exact .inr (by omega)))
        have HN : Hid (M.nodes t = (pre ++ [⟨op, x, y, p, a, pr, th, el⟩]) ++ M.todo (L' ++ [nx] ++ [el] ++ [th])) := by
          unfold Hid; rw [HTT.out]; simp only [M.todo_snoc, M.nodes]; simp
        clear hY hrow
        gi_wp2
        all_goals
          first
            | (have hnv := hnx2 (by assumption); obtain ⟨W1, hW1, hrow1, hsb1, hYb, fn, tmps, assign, body, hy, hR⟩ := prep.out _ hnv; rw [← hW1, hy])
            | (have hnv := hnx1; obtain ⟨W1, hW1, hrow1, hsb1, hYb, fn, tmps, assign, body, hy, hR⟩ := prep.out _ hnv; rw [← hW1, hy])
          clear hW1 hnx1 hnx2 prep hy f0 f1 f2 f3 f4 f5 f6 f7 hcu hfz
          gi_wp2
          refine hR.mono ?_
          clear hR
          rintro e W3 ⟨hB3, ⟨rfl, hj3, hk3⟩ | ⟨rfl, hjx3⟩⟩
          · have hrow3 := row_same hrow1 (hk3.same g hYg)
            have hsb3 := (hk3.same _ hYs).trans hsb1
            have hz3 := hk3.size
            have hz4 := hB3.size
            have hYl : wr.heap.size < W3.heap.size := Nat.lt_of_lt_of_le (hYb _ hYs).2 hz3
            obtain ⟨k0, k1, k2, k3, k4, k5, k6, k7, kf, kz⟩ := cells8 hsb3
            clear hsb1 hrow1
            have HN2 := HN
            gi_wp2_with (gi_at_builtin; refine wpListIn_append_own_at _ rfl _ _ 54 rfl w0.heap.size 22 i0 (.slice none 0 0) 1 24 Try.underlying54 hi hz0 hz1 hz2 rfl (by decide) (.slice (some ⟨g, 0, none⟩) (L'.length + 1) cap) (L'.length + 1) _ rfl (hrow3.alloc _) ⟨W3.heap.size, 0, none⟩ 2 2 [.slice q7 el.len m7, .slice q5 th.len m5] rfl rfl (newcells2 _ _ _) (by simp [Value.oneCell']) (by unfold maxLen; omega) (by omega) (by simp; omega) ?_; intro v' w' hown' hgrow _ hblk'; obtain ⟨g', cap', rfl⟩ := row_some hown')
            have ht : Turn Y W3 w' := ((Turn.refl _ _).alloc _).grown hgrow (fun k e => .inl (by simp [Value.ownBlock] at e; subst e; exact hYg))
            obtain ⟨d1, d2, d3, d4⟩ := row_cap hown'
            have hz5 := hgrow.size
            rw [World.size_alloc] at hz5
            have hg' : g' = g ∨ g' = W3.heap.size + 1 := by simpa [Value.ownBlock] using hblk'
            have hlt : pre.length < (M.nodes t).length := by have := congrArg List.length HN.out; simp only [List.length_append, List.length_cons, List.length_nil] at this; omega
            go_roundw
            case rel =>
              refine ⟨pre ++ [⟨op, x, y, p, a, pr, th, el⟩], L' ++ [nx] ++ [el] ++ [th], _, fun k => Y k ∨ (W3.heap.size ≤ k ∧ k < w'.heap.size), g', cap', ?_, ?_, ?_, ?_, ht.below hB3 hz4 (fun k h => (hYb k h).1), ?_, ((hst'.snoc hnv).snoc gE1').snoc gT1', ?_, HN.out, hJ _ _ _ _ _ hj3 ht (fun k h => by rcases h with h | h; exact .inl h; exact .inr h.1)⟩
              · simp
              · simp
              · rcases hg' with h | h
                · exact .inl (h ▸ hYg)
                · exact .inr (by omega)
              · rintro k (h | h)
                · have := hYb k h; exact ⟨this.1, by omega⟩
                · exact ⟨by omega, h.2⟩
              · simpa using hown'
              · simp; omega
            case measure => simp [intOf]; omega
          · gi_wp2
            refine bodyPost_ret (results_none rfl _ _ _) rfl ?_
            exact ⟨⟨_, rfl⟩, .inr ⟨_, Y, hjx3⟩⟩
end Go.Proofs.Ytcjmjdgcehmigaa
