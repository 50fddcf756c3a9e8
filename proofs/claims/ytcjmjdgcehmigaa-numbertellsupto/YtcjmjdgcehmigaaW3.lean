/-
  The walk of the law NumberParts. No conditions but bounds.
-/
import Derived.Test.YtcjmjdgcehmigaaW1
import Derived.Laws.AppendOwnNone
import Derived.BigFrame
set_option linter.unusedVariables false
set_option linter.unusedSimpArgs false
namespace Go.Proofs.Ytcjmjdgcehmigaa
open Go.RowKit

theorem run_append_none {P : Program} {w : World} (base : Nat) (t ty e : TypeId) (i : TypeInfo) (size c : Nat) (ht : P.underlying t = some (.slice e)) (hi : P.info? e = some i)
    (v : Value) (n : Nat) (xs : List Value) (hown : w.ownsRow base e size v n xs) :
    (Builtin.append_ #[t, t] ty #[v, .slice none 0 c]).run P w = .ok v w := by
  rcases hown.2 with ⟨rfl, rfl⟩ | ⟨g, cap, cur, rfl, _, _, hnc, _⟩
  · simp [Builtin.append_, run_underlying ht, sizeOf, typeInfo, hi, Builtin.lenOf, Builtin.firstCells]
  · simp [Builtin.append_, run_underlying ht, sizeOf, typeInfo, hi, Builtin.lenOf, Builtin.firstCells, hnc, storeCells]
theorem grownBy_refl (w : World) (r : Option Nat) : w.grownBy w r := ⟨rfl, rfl, rfl, Nat.le_refl _, fun _ _ _ => rfl⟩
/-- append(x, y...) of statements, x the call's own, also where a guard stands before it -/
theorem wpList_append_stmts {w : World} {ops : Array Oper} {rest : List Oper} {op : Oper} {a : Act} {Q : Exit → Act → World → Prop} (hw : Region.wanted op (yielded ops a.tmps) = true) (s x : Operand)
    (ho : op.op = .call { callee := .builtin .append, args := #[s, x], argTypes := #[22, 22] })
    (base : Nat) (v : Value) (n : Nat) (xs : List Value) (hs : a.eval s = v) (hown : w.ownsRow base 36 8 v n xs)
    (vx : Value) (m : Nat) (cs : List Value) (hx : a.eval x = vx) (hsrc : SlAt w NoX vx m cs) (hl : cs.length = m * 8) (h1 : ∀ u ∈ cs, u.oneCell' = true) (hm : n + m ≤ 4294967296) (hbase : base ≤ w.heap.size)
    (h : ∀ a' cap' w', w'.ownsRow base 36 8 (.slice a' (n + m) cap') (n + m) (xs ++ cs) → w.grownBy w' v.ownBlock → wpList Try.prog ops Q rest (a.put op.dst (.slice a' (n + m) cap')) w') : wpList Try.prog ops Q (op :: rest) a w := by
  obtain ⟨i0, hi, hz0, hz1, hz2⟩ := info_parts infoStmt
  refine BigFrame.wpList_want hw fun K hK => ?_
  obtain ⟨hb, ax, cx, rfl, hsx⟩ := hsrc
  cases ax with
  | none =>
    have hm0 : m = 0 ∧ cs = [] := by
      rcases hsx with h | ⟨b, o, e, _⟩
      · exact h
      · cases e
    obtain ⟨rfl, rfl⟩ := hm0
    have hrun := run_append_none (P := Try.prog) (w := w) base 22 op.type 36 i0 8 cx Try.underlying22 hi v n xs hown
    obtain ⟨av, cv, rfl⟩ := own_form hown
    unfold Oper.wp
    simp [execOp, ho, resolve, invoke, builtin, hs, hx, hrun, Result.andThen]
    refine hK _ _ (h av cv w ?_ (grownBy_refl _ _))
    rw [List.append_nil]; exact hown
  | some ad =>
    refine wp_append_own w s x 22 ho base 36 i0 _ 8 152 Try.underlying22 hi hz0 hz1 hz2 rfl (by decide) v n xs hs hown ad m cx cs hx hl ?_ h1 (by unfold maxLen; omega) (by omega) hbase ?_
    · intro j u hu
      rcases hsx with ⟨_, rfl⟩ | ⟨b, o, e, hlt, _, hc⟩
      · simp at hu
      · cases e
        rw [add_at]; exact hc j u hu
    · intro v' w' h1 h2 _
      obtain ⟨av, cv, rfl⟩ := own_form h1
      exact hK _ _ (h av cv w' h1 h2)
theorem owns_stm {w : World} {base n : Nat} {v : Value} {cs : List Value} {t : M.Tr} (h : w.ownsRow base 36 8 v n cs) (hr : RowAt w NoX cs t) (ht : t.len = n) (hn : n ≤ 4294967296) : StmAt w NoX v t := by
  subst ht
  exact ⟨cs, SlAt.of_owns h (fun b _ h => h) (by omega), hr⟩

namespace NumberParts
set_option maxRecDepth 16000 in
set_option maxHeartbeats 4000000 in
theorem walk (w : World) (v1 v2 : Value) (t u : M.Tr) (hv1 : StmAt w NoX v1 t) (hv2 : StmAt w NoX v2 u) (hN1 : (M.nodes t).length ≤ 1048576) (hF1 : Few 4294967296 t) (hN2 : (M.nodes u).length ≤ 1048576) (hF2 : Few 4294967296 u) :
    Calls Try.prog 6 #[v1, v2] w fun e w' => e = .returned (.bool true) ∧ Below w.heap.size w w' := by
  obtain ⟨q1, m1, rfl⟩ := StmAt.form hv1
  obtain ⟨q2, m2, rfl⟩ := StmAt.form hv2
  have hl1 : t.len ≤ 1048576 := Nat.le_trans (M.len_le_sz t) (by rw [← M.nodes_len]; exact hN1)
  have hl2 : u.len ≤ 1048576 := Nat.le_trans (M.len_le_sz u) (by rw [← M.nodes_len]; exact hN2)
  obtain ⟨cs, sl1, row1⟩ := hv1
  obtain ⟨ds, sl2, row2⟩ := hv2
  have o1 := row_one row1
  have o2 := row_one row2
  have hrow0 := World.ownsRow_lit (base := w.heap.size) (e := 36) (size := 8) w #[] 0 (Nat.le_refl _) (by simp [maxLen]) (by simp)
  have bA : Below w.heap.size w (w.alloc (.cells #[] 36)) := (Below.refl _ _).alloc (Nat.le_refl _) _
  have slA := SlAt.bel sl1 bA
  go_enter Try.func6, Try.ntmps6
  go_wp2_with (at_builtin; refine stopHere ?_)
  refine stopAt ?_
  refine wpList_append_stmts rfl _ _ rfl w.heap.size (.slice (some ⟨w.heap.size, 0, none⟩) 0 0) 0 [] rfl hrow0 (.slice q1 t.len m1) t.len cs rfl slA o1.1 o1.2 (by omega) (by simp) ?_
  intro a' cap' w1 hown1 hg1
  have b1 : Below w.heap.size w w1 := bA.grown hg1 (by simp) (fun k e => by simp [Value.ownBlock] at e; omega)
  rw [List.nil_append, Nat.zero_add] at hown1
  have slB := SlAt.bel sl2 b1
  go_wp2_with (at_builtin; refine stopHere ?_)
  refine stopAt ?_
  refine wpList_append_stmts rfl _ _ rfl w.heap.size (.slice a' t.len cap') t.len cs rfl hown1 (.slice q2 u.len m2) u.len ds rfl slB o2.1 o2.2 (by omega) b1.size ?_
  intro aB cB w2 hown2 hg2
  have b2 : Below w.heap.size w w2 := b1.grown hg2 b1.size (fun k e => (hown1.lt k e).1)
  have sB : StmAt w2 NoX (.slice aB (t.len + u.len) cB) (t.app u) := owns_stm hown2 (RowAt.app (RowAt.keep (Below.keepX b2) row1) (RowAt.keep (Below.keepX b2) row2)) (M.app_len t u) (by omega)
  have hsz : (t.app u).sz ≤ 2097152 := by rw [M.app_sz, ← M.nodes_len, ← M.nodes_len]; omega
  have hNB : (M.nodes (t.app u)).length ≤ 4294967296 := by rw [M.nodes_len]; omega
  have hFB : Few 4294967296 (t.app u) := Few.app.2 ⟨hF1, hF2⟩
  have hv1 : StmAt w NoX (.slice q1 t.len m1) t := ⟨cs, sl1, row1⟩
  have hv2 : StmAt w NoX (.slice q2 u.len m2) u := ⟨ds, sl2, row2⟩
  clear hrow0 bA slA hown1 slB hown2 hg1 hg2 b1
  go_wp2_with (go_at_call 8; refine stopHere ?_)
  refine stopAt ?_
  refine (deep_any w2 _ (t.app u) sB (by omega)).mono ?_
  rintro e w3 ⟨rfl, b3⟩
  have B3 := b2.trans (b3.mono b2.size)
  by_cases hbig : M.big (t.app u) = true
  · rw [hbig]
    go_wp2_with (go_at_call 9; refine stopHere ?_)
    refine stopAt ?_
    refine (fixed_any w3).mono ?_
    rintro e w4 ⟨rfl, b4⟩
    go_wp2
    go_ret
    exact ⟨rfl, B3.trans (b4.mono B3.size)⟩
  · have hbf : M.big (t.app u) = false := by simpa using hbig
    rw [hbf]
    clear hbig hbf
    go_wp2_with (go_at_call 16; refine stopHere ?_)
    refine stopAt ?_
    refine (list_any w3 _ t (hv1.bel B3) (by omega) hF1).mono ?_
    rintro e w4 ⟨q4, m4, rfl, s4, b4⟩
    have B4 := B3.trans (b4.mono B3.size)
    go_wp2_with (go_at_call 16; refine stopHere ?_)
    refine stopAt ?_
    refine (list_any w4 _ u (hv2.bel B4) (by omega) hF2).mono ?_
    rintro e w5 ⟨q5, m5, rfl, s5, b5⟩
    have B5 := B4.trans (b5.mono B4.size)
    have s45 := s4.bel b5
    go_wp2_with (go_at_call 9; refine stopHere ?_)
    refine stopAt ?_
    refine (fixed_any w5).mono ?_
    rintro e w6 ⟨rfl, b6⟩
    have B6 := B5.trans (b6.mono B5.size)
    have B26 : Below w2.heap.size w2 w6 := b3.trans ((b4.trans ((b5.trans (b6.mono b5.size)).mono b4.size)).mono b3.size)
    go_wp2_with (go_at_call 16; refine stopHere ?_)
    refine stopAt ?_
    refine (list_any w6 _ (t.app u) (sB.bel B26) hNB hFB).mono ?_
    rintro e w7 ⟨q7, m7, rfl, s7, b7⟩
    have B7 := B6.trans (b7.mono B6.size)
    have B57 : Below w5.heap.size w5 w7 := b6.trans (b7.mono b6.size)
    obtain ⟨ca, sla, rowa⟩ := s45.bel B57
    obtain ⟨cb, slb, rowb⟩ := s5.bel B57
    rw [M.toTr_len] at sla slb
    have p1 := row_one rowa
    have p2 := row_one rowb
    rw [M.toTr_len] at p1 p2
    have hrow0 := World.ownsRow_lit (base := w7.heap.size) (e := 36) (size := 8) w7 #[] 0 (Nat.le_refl _) (by simp [maxLen]) (by simp)
    have bA : Below w7.heap.size w7 (w7.alloc (.cells #[] 36)) := (Below.refl _ _).alloc (Nat.le_refl _) _
    have slA := SlAt.bel sla bA
    go_wp2_with (at_builtin; refine stopHere ?_)
    refine stopAt ?_
    refine wpList_append_stmts (by rfl) _ _ rfl w7.heap.size (.slice (some ⟨w7.heap.size, 0, none⟩) 0 0) 0 [] rfl hrow0 (.slice q4 (M.nodes t).length m4) (M.nodes t).length ca rfl slA p1.1 p1.2 (by omega) (by simp) ?_
    intro a8 c8 w8 hown8 hg8
    have b8 : Below w7.heap.size w7 w8 := bA.grown hg8 (by simp) (fun k e => by simp [Value.ownBlock] at e; omega)
    rw [List.nil_append, Nat.zero_add] at hown8
    have slB := SlAt.bel slb b8
    go_wp2_with (at_builtin; refine stopHere ?_)
    refine stopAt ?_
    refine wpList_append_stmts (by rfl) _ _ rfl w7.heap.size (.slice a8 (M.nodes t).length c8) (M.nodes t).length ca rfl hown8 (.slice q5 (M.nodes u).length m5) (M.nodes u).length cb rfl slB p2.1 p2.2 (by omega) b8.size ?_
    intro a9 c9 w9 hown9 hg9
    have b9 : Below w7.heap.size w7 w9 := b8.grown hg9 b8.size (fun k e => (hown8.lt k e).1)
    have B9 := B7.trans (b9.mono B7.size)
    have s9 : StmAt w9 NoX (.slice a9 ((M.nodes t).length + (M.nodes u).length) c9) ((M.toTr (M.nodes t)).app (M.toTr (M.nodes u))) := owns_stm hown9 (RowAt.app (RowAt.keep (Below.keepX b9) rowa) (RowAt.keep (Below.keepX b9) rowb)) (by rw [M.app_len, M.toTr_len, M.toTr_len]) (by omega)
    have s79 := s7.bel b9
    have B29 := B26.trans ((b7.trans (b9.mono b7.size)).mono B26.size)
    clear hrow0 bA slA hown8 slB hown9 hg8 hg9 sla slb p1 p2
    go_wp2_with (go_at_call 15; refine stopHere ?_)
    refine stopAt ?_
    refine (sameU _ w9 _ _ _ _ (Nat.le_refl _) s79 s9).mono ?_
    rintro e w10 ⟨rfl, b10⟩
    have heq : M.toTr (M.nodes (t.app u)) = (M.toTr (M.nodes t)).app (M.toTr (M.nodes u)) := by rw [M.nodes_app, M.toTr_app]
    rw [decide_eq_true heq]
    clear heq
    have B10 := B9.trans (b10.mono B9.size)
    have B210 := B29.trans (b10.mono B29.size)
    go_wp2_with (go_at_call 17; refine stopHere ?_)
    refine stopAt ?_
    refine (count_any w10 _ (t.app u) (sB.bel B210) hNB).mono ?_
    rintro e w11 ⟨rfl, b11⟩
    have B11 := B10.trans (b11.mono B10.size)
    have B211 := B210.trans (b11.mono B210.size)
    go_wp2_with (go_at_call 17; refine stopHere ?_)
    refine stopAt ?_
    refine (count_any w11 _ t (hv1.bel B11) (by omega)).mono ?_
    rintro e w12 ⟨rfl, b12⟩
    have B12 := B11.trans (b12.mono B11.size)
    have B212 := B211.trans (b12.mono B211.size)
    go_wp2_with (go_at_call 17; refine stopHere ?_)
    refine stopAt ?_
    refine (count_any w12 _ u (hv2.bel B12) (by omega)).mono ?_
    rintro e w13 ⟨rfl, b13⟩
    have B13 := B12.trans (b13.mono B12.size)
    have B213 := B212.trans (b13.mono B212.size)
    have hcnt : (M.nodes (t.app u)).length = (M.nodes t).length + (M.nodes u).length := by rw [M.nodes_app, List.length_append]
    have hcb : (((M.nodes (t.app u)).length : Int) == ((M.nodes t).length : Int) + ((M.nodes u).length : Int)) = true := by rw [hcnt]; simp
    clear hcnt
    have hs1 := M.sites_le (M.nodes t)
    have hs2 := M.sites_le (M.nodes u)
    go_wp2_with (go_at_call 18; refine stopHere ?_)
    refine stopAt ?_
    refine (sites_any w13 _ (t.app u) (sB.bel B213) hNB).mono ?_
    rintro e w14 ⟨rfl, b14⟩
    have B14 := B13.trans (b14.mono B13.size)
    go_wp2_with (go_at_call 18; refine stopHere ?_)
    refine stopAt ?_
    refine (sites_any w14 _ t (hv1.bel B14) (by omega)).mono ?_
    rintro e w15 ⟨rfl, b15⟩
    have B15 := B14.trans (b15.mono B14.size)
    go_wp2_with (go_at_call 18; refine stopHere ?_)
    refine stopAt ?_
    refine (sites_any w15 _ u (hv2.bel B15) (by omega)).mono ?_
    rintro e w16 ⟨rfl, b16⟩
    have B16 := B15.trans (b16.mono B15.size)
    have hst : M.sites (M.nodes (t.app u)) = M.sites (M.nodes t) + M.sites (M.nodes u) := by rw [M.nodes_app, M.sites_app]
    have hsb : ((M.sites (M.nodes (t.app u)) : Int) == (M.sites (M.nodes t) : Int) + (M.sites (M.nodes u) : Int)) = true := by rw [hst]; simp
    clear hst
    go_wp2
    go_ret
    exact ⟨ret_bool (by simp [hsb]), B16⟩
end NumberParts
end Go.Proofs.Ytcjmjdgcehmigaa
