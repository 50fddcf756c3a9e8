/-
  The walks of number.Site and number.Blocks: which site a statement is, and where its blocks begin. No conditions but a bound on how many statements there are.
-/
import Derived.Test.YtcjmjdgcehmigaaN4
set_option linter.unusedVariables false
set_option linter.unusedSimpArgs false
namespace Go.Proofs.Ytcjmjdgcehmigaa
open Go.RowKit Go.Shelf
attribute [local go_sem] Oper.semAt_some

theorem Ab.and {β : Type} {I J : β → (Nat → Prop) → World → Prop} (h : Ab I) (k : Ab J) : Ab (fun s X W => I s X W ∧ J s X W) := fun s X Y W W' hs ht hy => ⟨h s X Y W W' hs.1 ht hy, k s X Y W W' hs.2 ht hy⟩
theorem ab_pure {β : Type} {p : β → Prop} : Ab (fun (s : β) (_ : Nat → Prop) (_ : World) => p s) := fun _ _ _ _ _ h _ _ => h

theorem M.site_yes {l pre post : List M.Nd} {d : M.Nd} (h : l = pre ++ d :: post) (h4 : d.op = 4) : M.site l (pre.length : Nat) = (((M.sites pre : Nat) : Int), true) := by
  subst h
  unfold M.site
  rw [if_pos (by omega)]
  simp [h4]
theorem M.site_no {l : List M.Nd} {n : Int} (h : ∀ d, 0 ≤ n → l[n.toNat]? = some d → ¬ d.op = 4) : M.site l n = (0, false) := by
  unfold M.site
  by_cases hn : 0 ≤ n
  · rw [if_pos hn]
    cases hd : l[n.toNat]? with
    | none => rfl
    | some d => simp [h d hn hd]
  · rw [if_neg hn]
theorem no_snoc {pre : List M.Nd} {d : M.Nd} {n : Int} (h : ∀ d, 0 ≤ n → pre[n.toNat]? = some d → ¬ d.op = 4) (h2 : ¬ d.op = 4 ∨ ¬ (pre.length : Int) = n) : ∀ e, 0 ≤ n → (pre ++ [d])[n.toNat]? = some e → ¬ e.op = 4 := by
  intro e hn he
  by_cases hl : n.toNat < pre.length
  · rw [List.getElem?_append_left hl] at he; exact h e hn he
  · rw [List.getElem?_append_right (by omega)] at he
    by_cases h0 : n.toNat - pre.length = 0
    · rw [h0] at he
      simp at he
      subst he
      rcases h2 with h2 | h2
      · exact h2
      · exact absurd (by omega) h2
    · rw [List.getElem?_eq_none (by simp; omega)] at he; cases he

theorem heap_set1 {w : World} {g : Nat} {T : TypeId} {u v : Value} (h : w.heap[g]? = some (.cells #[u] T (0, 0))) : (w.setCell ⟨g, 0, none⟩ v).heap[g]? = some (.cells #[v] T (0, 0)) := by
  have := heap_setCell_same _ _ 0 _ _ v h
  simpa using this

set_option maxRecDepth 16000 in
set_option maxHeartbeats 4000000 in
theorem site_any (w : World) (v : Value) (t : M.Tr) (n : Int) (hv : StmAt w NoX v t) (hN : (M.nodes t).length ≤ 4294967296) :
    Calls Try.prog 10 #[v, .int .i64 n] w fun e w' => e = .returned (.tuple #[.int .i64 (M.site (M.nodes t) n).1, .bool (M.site (M.nodes t) n).2]) ∧ Below w.heap.size w w' := by
  obtain ⟨va, vc, rfl⟩ := StmAt.form hv
  refine (callsIn_wide (n := 4)).1 ?_
  refine callsIn_of_wp_marks Try.func10 rfl trivial ?_ rfl
  simp only [Try.ntmps10, List.size_toArray, List.length_cons, List.length_nil, Nat.reduceAdd, Nat.reduceSub, Array.replicate_succ, Array.replicate_zero, List.push_toArray, List.append_toArray, List.nil_append, List.cons_append]
  gi_wp2_with (refine ⟨trivial, ?_⟩; gi_at_call 22; refine (numbered_sl _ _ _ _).mono ?_; rintro e w' ⟨rfl, rfl⟩)
  have e0 := heap_alloc_new w (.cells #[.int .i64 n] 3)
  have e1 := heap_alloc_new (w.alloc (.cells #[.int .i64 n] 3)) (.cells #[.int .i64 0] 3)
  have e2 := heap_alloc_new ((w.alloc (.cells #[.int .i64 n] 3)).alloc (.cells #[.int .i64 0] 3)) (.cells #[.bool false] 4)
  have e3 := heap_alloc_new (((w.alloc (.cells #[.int .i64 n] 3)).alloc (.cells #[.int .i64 0] 3)).alloc (.cells #[.bool false] 4)) (.cells #[.int .i64 0] 3)
  have e4 := heap_alloc_new ((((w.alloc (.cells #[.int .i64 n] 3)).alloc (.cells #[.int .i64 0] 3)).alloc (.cells #[.bool false] 4)).alloc (.cells #[.int .i64 0] 3)) (.cells #[.slice va t.len vc] 22)
  have hB0 : Below w.heap.size w (((((w.alloc (.cells #[.int .i64 n] 3)).alloc (.cells #[.int .i64 0] 3)).alloc (.cells #[.bool false] 4)).alloc (.cells #[.int .i64 0] 3)).alloc (.cells #[.slice va t.len vc] 22)) := (((((Below.refl _ w).alloc (Nat.le_refl _) _).alloc (by simp) _).alloc (by simp; omega) _).alloc (by simp; omega) _).alloc (by simp; omega) _
  replace e0 := heap_al (o' := .cells #[.slice va t.len vc] 22) (heap_al (o' := .cells #[.int .i64 0] 3) (heap_al (o' := .cells #[.bool false] 4) (heap_al (o' := .cells #[.int .i64 0] 3) e0)))
  replace e1 := heap_al (o' := .cells #[.slice va t.len vc] 22) (heap_al (o' := .cells #[.int .i64 0] 3) (heap_al (o' := .cells #[.bool false] 4) e1))
  replace e2 := heap_al (o' := .cells #[.slice va t.len vc] 22) (heap_al (o' := .cells #[.int .i64 0] 3) e2)
  replace e3 := heap_al (o' := .cells #[.slice va t.len vc] 22) e3
  simp only [World.size_alloc] at e1 e2 e3 e4
  have hz0 : (((((w.alloc (.cells #[.int .i64 n] 3)).alloc (.cells #[.int .i64 0] 3)).alloc (.cells #[.bool false] 4)).alloc (.cells #[.int .i64 0] 3)).alloc (.cells #[.slice va t.len vc] 22)).heap.size = w.heap.size + 1 + 1 + 1 + 1 + 1 := by simp
  generalize (((((w.alloc (.cells #[.int .i64 n] 3)).alloc (.cells #[.int .i64 0] 3)).alloc (.cells #[.bool false] 4)).alloc (.cells #[.int .i64 0] 3)).alloc (.cells #[.slice va t.len vc] 22)) = W0 at e0 e1 e2 e3 e4 hB0 hz0 ⊢
  obtain ⟨c0, hc0⟩ : ∃ c0, c0 = w.heap.size := ⟨_, rfl⟩
  obtain ⟨c1, hc1⟩ : ∃ c1, c1 = w.heap.size + 1 := ⟨_, rfl⟩
  obtain ⟨c2, hc2⟩ : ∃ c2, c2 = w.heap.size + 1 + 1 := ⟨_, rfl⟩
  obtain ⟨c3, hc3⟩ : ∃ c3, c3 = w.heap.size + 1 + 1 + 1 := ⟨_, rfl⟩
  obtain ⟨c4, hc4⟩ : ∃ c4, c4 = w.heap.size + 1 + 1 + 1 + 1 := ⟨_, rfl⟩
  rw [← hc4] at e4 hz0 ⊢
  rw [← hc3] at e3 ⊢
  rw [← hc2] at e2 ⊢
  rw [← hc1] at e1 ⊢
  have hd0 : w.heap.size ≤ c0 ∧ w.heap.size ≤ c1 ∧ w.heap.size ≤ c2 ∧ w.heap.size ≤ c3 := by omega
  have hd1 : c0 ≠ c1 ∧ c0 ≠ c2 ∧ c0 ≠ c3 ∧ c1 ≠ c2 ∧ c1 ≠ c3 ∧ c2 ≠ c3 := by omega
  have hd2 : ¬ W0.heap.size ≤ c0 ∧ ¬ W0.heap.size ≤ c1 ∧ ¬ W0.heap.size ≤ c2 ∧ ¬ W0.heap.size ≤ c3 := by omega
  have hn0 : Value.pointer (some { block := w.heap.size, off := 0 }) = Value.pointer (some { block := c0, off := 0 }) := by rw [hc0]
  rw [hn0]
  rw [← hc0] at e0
  clear hc0 hc1 hc2 hc3 hc4 hn0 hz0
  have hIab : Ab (fun (pre : List M.Nd) X W => (W.heap[c0]? = some (.cells #[.int .i64 n] 3 (0, 0)) ∧ ¬ X c0) ∧ (W.heap[c1]? = some (.cells #[.int .i64 0] 3 (0, 0)) ∧ ¬ X c1) ∧ (W.heap[c2]? = some (.cells #[.bool false] 4 (0, 0)) ∧ ¬ X c2) ∧ (W.heap[c3]? = some (.cells #[.int .i64 ((M.sites pre : Nat) : Int)] 3 (0, 0)) ∧ ¬ X c3) ∧ ∀ d, 0 ≤ n → pre[n.toNat]? = some d → ¬ d.op = 4) :=
    (ab_box c0 (fun _ => .cells #[.int .i64 n] 3 (0, 0))).and ((ab_box c1 (fun _ => .cells #[.int .i64 0] 3 (0, 0))).and ((ab_box c2 (fun _ => .cells #[.bool false] 4 (0, 0))).and ((ab_box c3 (fun pre => .cells #[.int .i64 ((M.sites pre : Nat) : Int)] 3 (0, 0))).and ab_pure)))
  have hIxb : ∀ c, Ab (fun (pre : List M.Nd) X W => c = Code.ret ∧ (W.heap[c1]? = some (.cells #[.int .i64 (M.site (M.nodes t) n).1] 3 (0, 0)) ∧ ¬ X c1) ∧ (W.heap[c2]? = some (.cells #[.bool (M.site (M.nodes t) n).2] 4 (0, 0)) ∧ ¬ X c2)) := fun c =>
    (ab_pure (p := fun _ => c = Code.ret)).and ((ab_box c1 (fun _ => .cells #[.int .i64 (M.site (M.nodes t) n).1] 3 (0, 0))).and (ab_box c2 (fun _ => .cells #[.bool (M.site (M.nodes t) n).2] 4 (0, 0))))
  refine wpIn_rangeX (w0 := w) (n := 4) (α := It) (β := M.Nd) rfl (by omega) (gf := 28) (lb := #[.pointer (some ⟨c4, 0, none⟩)]) rfl trivial (enters_of Try.func28 (by kernel_rfl) rfl)
    (seq_of hv hN hB0 e4) hB0 (by intros; rfl) _ _ hIab hIxb
    ⟨⟨e0, hd2.1⟩, ⟨e1, hd2.2.1⟩, ⟨e2, hd2.2.2.1⟩, ⟨e3, hd2.2.2.2⟩, by simp⟩
    (AxBox _ w fun k x sb => { tmps := #[.slice va t.len vc, .int .i64 n, undef, .pointer (some ⟨c0, 0, none⟩), .pointer (some ⟨c1, 0, none⟩), .pointer (some ⟨c2, 0, none⟩), .pointer (some ⟨c3, 0, none⟩), .int .i64 k, .pointer (some ⟨sb, 0, none⟩), .slice va t.len vc, .func (.func 28) #[] #[.pointer (some ⟨c4, 0, none⟩)], .int .i64 k, x.val, undef, undef, undef, undef, undef, undef, undef, undef, undef], defers := [] })
    (AxBox.turn hIab) ?assign ?body ?done ?stop
  case assign =>
    intro l pre x post X W hxs hok hX hB hI
    obtain ⟨nd, q1, m1, q3, m3, q5, m5, q7, m7, rfl⟩ := It.form hok
    simp only [It.enc, It.val]
    gi_wp2
    exact AxBox.new (x := ⟨nd, .slice q1 nd.a.length m1, .slice q3 nd.pr.length m3, .slice q5 nd.th.len m5, .slice q7 nd.el.len m7⟩) hIab hX hB hI rfl
  case body =>
    rintro l pre x post X a' W hxs hok hX ⟨⟨⟨i0, n0⟩, ⟨i1, n1⟩, ⟨i2, n2⟩, ⟨i3, n3⟩, hno⟩, hB, sb, ⟨hs, hns⟩, rfl⟩
    obtain ⟨nd, q1, m1, q3, m3, q5, m5, q7, m7, rfl⟩ := It.form hok
    have hpl : pre.length < 4294967296 := by have := congrArg List.length hxs; simp only [List.length_append, List.length_cons] at this; omega
    have hsl := M.sites_le pre
    have HX := hid hxs
    have HNO := hid hno
    clear hxs hno
    have g0 := cell0 i0
    have g1 := cell0 i1
    have g2 := cell0 i2
    have g3 := cell0 i3
    have y1 := Lib.frozen_of_heap i1 0
    have y2 := Lib.frozen_of_heap i2 0
    have y3 := Lib.frozen_of_heap i3 0
    obtain ⟨k0, k1, k2, k3, k4, k5, k6, k7, kf, kz⟩ := cells8 hs
    obtain ⟨x01, x02, x03, x12, x13, x23⟩ := hd1
    obtain ⟨z0, z1, z2, z3⟩ := hd0
    simp only [It.val]
    by_cases h4 : nd.op = 4
    · have h4b : (nd.op == 4) = true := by simpa using h4
      have H4 := hid h4
      clear h4
      by_cases hk : (pre.length : Int) = n
      · have hkb : ((pre.length : Int) == n) = true := by simpa using hk
        have HK := hid hk
        clear hk
        gi_wp2
        have HS : M.site (M.nodes t) n = (((M.sites pre : Nat) : Int), true) := by rw [← HK.out]; exact M.site_yes HX.out H4.out
        refine ⟨(KeepX.setCell (p := ⟨c1, 0, none⟩) n1 _).trans (KeepX.setCell (p := ⟨c2, 0, none⟩) n2 _), (hB.setCell (p := ⟨c1, 0, none⟩) z1 _).setCell (p := ⟨c2, 0, none⟩) z2 _, rfl, ⟨?_, n1⟩, ⟨?_, n2⟩⟩
        · rw [HS]; exact heap_set (heap_set1 i1) x12
        · rw [HS]; exact heap_set1 (heap_set i2 (Ne.symm x12))
      · have hkb : ((pre.length : Int) == n) = false := by simpa using hk
        have HK := hid hk
        clear hk
        have HS : Hid (M.sites (pre ++ [nd]) = M.sites pre + 1) := by unfold Hid; rw [M.sites_snoc, if_pos H4.out]
        gi_wp2
        refine ⟨KeepX.setCell (p := ⟨c3, 0, none⟩) n3 _, hB.setCell (p := ⟨c3, 0, none⟩) z3 _, ⟨heap_set i0 x03, n0⟩, ⟨heap_set i1 x13, n1⟩, ⟨heap_set i2 x23, n2⟩, ⟨?_, n3⟩, no_snoc HNO.out (.inr HK.out)⟩
        rw [HS.out]; exact heap_set1 i3
    · have h4b : (nd.op == 4) = false := by simpa using h4
      have HS : Hid (M.sites (pre ++ [nd]) = M.sites pre) := by unfold Hid; rw [M.sites_snoc, if_neg h4]; rfl
      have H4 := hid h4
      clear h4
      gi_wp2
      exact ⟨KeepX.refl _ _, hB, ⟨i0, n0⟩, ⟨i1, n1⟩, ⟨i2, n2⟩, ⟨by rw [HS.out]; exact i3, n3⟩, no_snoc HNO.out (.inl H4.out)⟩
  case done =>
    rintro D X W hD hXD hB ⟨⟨i0, n0⟩, ⟨i1, n1⟩, ⟨i2, n2⟩, ⟨i3, n3⟩, hno⟩ hK
    have g1 := cell0 i1
    have g2 := cell0 i2
    have y1 := Lib.frozen_of_heap i1 0
    have y2 := Lib.frozen_of_heap i2 0
    obtain ⟨x01, x02, x03, x12, x13, x23⟩ := hd1
    obtain ⟨z0, z1, z2, z3⟩ := hd0
    have HS := hid (M.site_no hno)
    clear hno
    gi_wp2
    have hK' : ((W.setCell ⟨c1, 0, none⟩ (.int .i64 0)).setCell ⟨c2, 0, none⟩ (.bool false)).heap[D]? = some (.deferred (some [])) := heap_set (heap_set hK (fun e => n1 (e ▸ hXD))) (fun e => n2 (e ▸ hXD))
    refine ⟨by simp, .inl ⟨_, _, rfl, run_takeDeferred hK', ?_⟩⟩
    have r1 := cell0 (box_put (o' := .deferred none) (heap_set (v := .bool false) (i := 0) (heap_set1 (v := .int .i64 0) i1) x12) (fun e => n1 (e ▸ hXD) : c1 ≠ D))
    have r2 := cell0 (box_put (o' := .deferred none) (heap_set1 (v := .bool false) (heap_set (v := .int .i64 0) (i := 0) i2 (Ne.symm x12))) (fun e => n2 (e ▸ hXD) : c2 ≠ D))
    refine ⟨.tuple #[.int .i64 0, .bool false], ?_, by rw [HS.out], below_put ((hB.setCell (p := ⟨c1, 0, none⟩) z1 _).setCell (p := ⟨c2, 0, none⟩) z2 _) hD⟩
    simp [results, Try.f10, go_sem, r1, r2]
  case stop =>
    rintro D c pre X W hD hXD hB ⟨rfl, ⟨i1, n1⟩, ⟨i2, n2⟩⟩ hK
    gi_wp2
    refine ⟨by simp, .inl ⟨_, _, rfl, run_takeDeferred hK, ?_⟩⟩
    have r1 := cell0 (box_put (o' := .deferred none) i1 (fun e => n1 (e ▸ hXD) : c1 ≠ D))
    have r2 := cell0 (box_put (o' := .deferred none) i2 (fun e => n2 (e ▸ hXD) : c2 ≠ D))
    refine ⟨.tuple #[.int .i64 (M.site (M.nodes t) n).1, .bool (M.site (M.nodes t) n).2], ?_, rfl, below_put hB hD⟩
    simp [results, Try.f10, go_sem, r1, r2]

theorem M.blocks_yes {l pre post : List M.Nd} {d : M.Nd} (h : l = pre ++ d :: post) : M.blocks l (pre.length : Nat) = ((pre.length : Int) + 1, (pre.length : Int) + 1 + ((M.nodes d.th).length : Nat), (pre.length : Int) + 1 + ((M.nodes d.th).length : Nat) + ((M.nodes d.el).length : Nat)) := by
  subst h
  unfold M.blocks
  rw [if_pos (by omega)]
  simp
theorem M.blocks_no {l : List M.Nd} {n : Int} (h : 0 ≤ n → (l.length : Int) ≤ n) : M.blocks l n = (-1, -1, -1) := by
  unfold M.blocks
  by_cases hn : 0 ≤ n
  · have := h hn
    rw [if_pos hn, List.getElem?_eq_none (by omega)]
  · rw [if_neg hn]
theorem nodes_sub {l pre post : List M.Nd} {d : M.Nd} {t : M.Tr} (h : M.nodes t = pre ++ d :: post) : pre.length + 1 + (M.nodes d.th).length + (M.nodes d.el).length ≤ (M.nodes t).length := by
  obtain ⟨r, hr⟩ := M.nodes_at t pre.length d (by rw [h]; simp)
  have := congrArg List.length hr
  simp only [List.length_drop, List.length_append] at this
  have h2 : pre.length < (M.nodes t).length := by rw [h]; simp
  omega
theorem count_in (l : Nat) (w w1 : World) (v : Value) (t : M.Tr) (hv : StmAt w NoX v t) (hN : (M.nodes t).length ≤ 4294967296) (hb : Below w.heap.size w w1) :
    CallsIn (Fence.wide.inRound l) 1 Try.prog 17 #[v] w1 fun e w' => e = .returned (.int .i64 ((M.nodes t).length : Nat)) ∧ Below w1.heap.size w1 w' :=
  CallsIn.inRound l (callsIn_wide.2 (count_any w1 v t (hv.bel hb) hN))

set_option maxRecDepth 16000 in
set_option maxHeartbeats 4000000 in
theorem blocks_any (w : World) (v : Value) (t : M.Tr) (n : Int) (hv : StmAt w NoX v t) (hN : (M.nodes t).length ≤ 4294967296) :
    Calls Try.prog 12 #[v, .int .i64 n] w fun e w' => e = .returned (.tuple #[.int .i64 (M.blocks (M.nodes t) n).1, .int .i64 (M.blocks (M.nodes t) n).2.1, .int .i64 (M.blocks (M.nodes t) n).2.2]) ∧ Below w.heap.size w w' := by
  obtain ⟨va, vc, rfl⟩ := StmAt.form hv
  refine (callsIn_wide (n := 4)).1 ?_
  refine callsIn_of_wp_marks Try.func12 rfl trivial ?_ rfl
  simp only [Try.ntmps12, List.size_toArray, List.length_cons, List.length_nil, Nat.reduceAdd, Nat.reduceSub, Array.replicate_succ, Array.replicate_zero, List.push_toArray, List.append_toArray, List.nil_append, List.cons_append]
  gi_wp2_with (refine ⟨trivial, ?_⟩; gi_at_call 22; refine (numbered_sl _ _ _ _).mono ?_; rintro e w' ⟨rfl, rfl⟩)
  have e0 := heap_alloc_new w (.cells #[.int .i64 n] 3)
  have e1 := heap_alloc_new (w.alloc (.cells #[.int .i64 n] 3)) (.cells #[.int .i64 0] 3)
  have e2 := heap_alloc_new ((w.alloc (.cells #[.int .i64 n] 3)).alloc (.cells #[.int .i64 0] 3)) (.cells #[.int .i64 0] 3)
  have e3 := heap_alloc_new (((w.alloc (.cells #[.int .i64 n] 3)).alloc (.cells #[.int .i64 0] 3)).alloc (.cells #[.int .i64 0] 3)) (.cells #[.int .i64 0] 3)
  have e4 := heap_alloc_new ((((w.alloc (.cells #[.int .i64 n] 3)).alloc (.cells #[.int .i64 0] 3)).alloc (.cells #[.int .i64 0] 3)).alloc (.cells #[.int .i64 0] 3)) (.cells #[.slice va t.len vc] 22)
  have hB0 : Below w.heap.size w (((((w.alloc (.cells #[.int .i64 n] 3)).alloc (.cells #[.int .i64 0] 3)).alloc (.cells #[.int .i64 0] 3)).alloc (.cells #[.int .i64 0] 3)).alloc (.cells #[.slice va t.len vc] 22)) := (((((Below.refl _ w).alloc (Nat.le_refl _) _).alloc (by simp) _).alloc (by simp; omega) _).alloc (by simp; omega) _).alloc (by simp; omega) _
  replace e0 := heap_al (o' := .cells #[.slice va t.len vc] 22) (heap_al (o' := .cells #[.int .i64 0] 3) (heap_al (o' := .cells #[.int .i64 0] 3) (heap_al (o' := .cells #[.int .i64 0] 3) e0)))
  replace e1 := heap_al (o' := .cells #[.slice va t.len vc] 22) (heap_al (o' := .cells #[.int .i64 0] 3) (heap_al (o' := .cells #[.int .i64 0] 3) e1))
  replace e2 := heap_al (o' := .cells #[.slice va t.len vc] 22) (heap_al (o' := .cells #[.int .i64 0] 3) e2)
  replace e3 := heap_al (o' := .cells #[.slice va t.len vc] 22) e3
  simp only [World.size_alloc] at e1 e2 e3 e4
  have hz0 : (((((w.alloc (.cells #[.int .i64 n] 3)).alloc (.cells #[.int .i64 0] 3)).alloc (.cells #[.int .i64 0] 3)).alloc (.cells #[.int .i64 0] 3)).alloc (.cells #[.slice va t.len vc] 22)).heap.size = w.heap.size + 1 + 1 + 1 + 1 + 1 := by simp
  generalize (((((w.alloc (.cells #[.int .i64 n] 3)).alloc (.cells #[.int .i64 0] 3)).alloc (.cells #[.int .i64 0] 3)).alloc (.cells #[.int .i64 0] 3)).alloc (.cells #[.slice va t.len vc] 22)) = W0 at e0 e1 e2 e3 e4 hB0 hz0 ⊢
  obtain ⟨c0, hc0⟩ : ∃ c0, c0 = w.heap.size := ⟨_, rfl⟩
  obtain ⟨c1, hc1⟩ : ∃ c1, c1 = w.heap.size + 1 := ⟨_, rfl⟩
  obtain ⟨c2, hc2⟩ : ∃ c2, c2 = w.heap.size + 1 + 1 := ⟨_, rfl⟩
  obtain ⟨c3, hc3⟩ : ∃ c3, c3 = w.heap.size + 1 + 1 + 1 := ⟨_, rfl⟩
  obtain ⟨c4, hc4⟩ : ∃ c4, c4 = w.heap.size + 1 + 1 + 1 + 1 := ⟨_, rfl⟩
  rw [← hc4] at e4 hz0 ⊢
  rw [← hc3] at e3 ⊢
  rw [← hc2] at e2 ⊢
  rw [← hc1] at e1 ⊢
  have hd0 : w.heap.size ≤ c0 ∧ w.heap.size ≤ c1 ∧ w.heap.size ≤ c2 ∧ w.heap.size ≤ c3 := by omega
  have hd1 : c0 ≠ c1 ∧ c0 ≠ c2 ∧ c0 ≠ c3 ∧ c1 ≠ c2 ∧ c1 ≠ c3 ∧ c2 ≠ c3 := by omega
  have hd2 : ¬ W0.heap.size ≤ c0 ∧ ¬ W0.heap.size ≤ c1 ∧ ¬ W0.heap.size ≤ c2 ∧ ¬ W0.heap.size ≤ c3 := by omega
  have hn0 : Value.pointer (some { block := w.heap.size, off := 0 }) = Value.pointer (some { block := c0, off := 0 }) := by rw [hc0]
  rw [hn0]
  rw [← hc0] at e0
  clear hc0 hc1 hc2 hc3 hc4 hn0 hz0
  have hIab : Ab (fun (pre : List M.Nd) X W => (W.heap[c0]? = some (.cells #[.int .i64 n] 3 (0, 0)) ∧ ¬ X c0) ∧ (W.heap[c1]? = some (.cells #[.int .i64 0] 3 (0, 0)) ∧ ¬ X c1) ∧ (W.heap[c2]? = some (.cells #[.int .i64 0] 3 (0, 0)) ∧ ¬ X c2) ∧ (W.heap[c3]? = some (.cells #[.int .i64 0] 3 (0, 0)) ∧ ¬ X c3) ∧ (0 ≤ n → (pre.length : Int) ≤ n)) :=
    (ab_box c0 (fun _ => .cells #[.int .i64 n] 3 (0, 0))).and ((ab_box c1 (fun _ => .cells #[.int .i64 0] 3 (0, 0))).and ((ab_box c2 (fun _ => .cells #[.int .i64 0] 3 (0, 0))).and ((ab_box c3 (fun pre => .cells #[.int .i64 0] 3 (0, 0))).and ab_pure)))
  have hIxb : ∀ c, Ab (fun (pre : List M.Nd) X W => c = Code.ret ∧ (W.heap[c1]? = some (.cells #[.int .i64 (M.blocks (M.nodes t) n).1] 3 (0, 0)) ∧ ¬ X c1) ∧ (W.heap[c2]? = some (.cells #[.int .i64 (M.blocks (M.nodes t) n).2.1] 3 (0, 0)) ∧ ¬ X c2) ∧ (W.heap[c3]? = some (.cells #[.int .i64 (M.blocks (M.nodes t) n).2.2] 3 (0, 0)) ∧ ¬ X c3)) := fun c =>
    (ab_pure (p := fun _ => c = Code.ret)).and ((ab_box c1 (fun _ => .cells #[.int .i64 (M.blocks (M.nodes t) n).1] 3 (0, 0))).and ((ab_box c2 (fun _ => .cells #[.int .i64 (M.blocks (M.nodes t) n).2.1] 3 (0, 0))).and (ab_box c3 (fun _ => .cells #[.int .i64 (M.blocks (M.nodes t) n).2.2] 3 (0, 0)))))
  refine wpIn_rangeX (w0 := w) (n := 4) (α := It) (β := M.Nd) rfl (by omega) (gf := 28) (lb := #[.pointer (some ⟨c4, 0, none⟩)]) rfl trivial (enters_of Try.func28 (by kernel_rfl) rfl)
    (seq_of hv hN hB0 e4) hB0 (by intros; rfl) _ _ hIab hIxb
    ⟨⟨e0, hd2.1⟩, ⟨e1, hd2.2.1⟩, ⟨e2, hd2.2.2.1⟩, ⟨e3, hd2.2.2.2⟩, by simp⟩
    (AxBox _ w fun k x sb => { tmps := #[.slice va t.len vc, .int .i64 n, undef, .pointer (some ⟨c0, 0, none⟩), .pointer (some ⟨c1, 0, none⟩), .pointer (some ⟨c2, 0, none⟩), .pointer (some ⟨c3, 0, none⟩), .int .i64 k, .pointer (some ⟨sb, 0, none⟩), undef, undef, .slice va t.len vc, .func (.func 28) #[] #[.pointer (some ⟨c4, 0, none⟩)], .int .i64 k, x.val, undef, undef, undef, undef, undef, undef, undef, undef, undef, undef, undef, undef, undef, undef, undef, undef, undef], defers := [] })
    (AxBox.turn hIab) ?assign ?body ?done ?stop
  case assign =>
    intro l pre x post X W hxs hok hX hB hI
    obtain ⟨nd, q1, m1, q3, m3, q5, m5, q7, m7, rfl⟩ := It.form hok
    simp only [It.enc, It.val]
    gi_wp2
    exact AxBox.new (x := ⟨nd, .slice q1 nd.a.length m1, .slice q3 nd.pr.length m3, .slice q5 nd.th.len m5, .slice q7 nd.el.len m7⟩) hIab hX hB hI rfl
  case body =>
    rintro l pre x post X a' W hxs hok hX ⟨⟨⟨i0, n0⟩, ⟨i1, n1⟩, ⟨i2, n2⟩, ⟨i3, n3⟩, hno⟩, hB, sb, ⟨hs, hns⟩, rfl⟩
    have hok' := hok
    obtain ⟨nd, q1, m1, q3, m3, q5, m5, q7, m7, rfl⟩ := It.form hok
    obtain ⟨_, _, hT, hE⟩ := hok'
    simp only at hT hE
    have hpl : pre.length < 4294967296 := by have := congrArg List.length hxs; simp only [List.length_append, List.length_cons] at this; omega
    have hsub := nodes_sub (l := []) hxs
    simp only at hsub
    have HX := hid hxs
    have HNO := hid hno
    clear hxs hno
    have g0 := cell0 i0
    obtain ⟨x01, x02, x03, x12, x13, x23⟩ := hd1
    obtain ⟨z0, z1, z2, z3⟩ := hd0
    simp only [It.val]
    by_cases hk : (pre.length : Int) = n
    · have hkb : ((pre.length : Int) == n) = true := by simpa using hk
      have HK := hid hk
      clear hk
      obtain ⟨k0, k1, k2, k3, k4, k5, k6, k7, kf, kz⟩ := cells8 hs
      have hn1 : 0 ≤ n := by have := HK.out; omega
      have hn2 : n ≤ 4294967296 := by have := HK.out; omega
      have hc1 : (M.nodes nd.th).length ≤ 4294967296 := by omega
      have hc2 : (M.nodes nd.el).length ≤ 4294967296 := by omega
      gi_wp2_with (refine ⟨trivial, ?_⟩; gi_at_call 17; refine stopHere ?_)
      refine stopAt ?_
      refine (count_in l w W _ nd.th hT hc1 hB).mono ?_
      rintro e W1 ⟨rfl, hb1⟩
      have hB1 : Below w.heap.size w W1 := hB.trans (hb1.mono hB.size)
      have hs1 := kept hb1 hs
      clear k0 k1 k2 k3 k4 k5 k6 k7 kf kz
      obtain ⟨k0, k1, k2, k3, k4, k5, k6, k7, kf, kz⟩ := cells8 hs1
      gi_wp2_with (refine ⟨trivial, ?_⟩; gi_at_call 17; refine stopHere ?_)
      refine stopAt ?_
      refine (count_in l w W1 _ nd.el hE hc2 hB1).mono ?_
      rintro e W2 ⟨rfl, hb2⟩
      have hB2 : Below w.heap.size w W2 := hB1.trans (hb2.mono hB1.size)
      have j1 := kept hb2 (kept hb1 i1)
      have j2 := kept hb2 (kept hb1 i2)
      have j3 := kept hb2 (kept hb1 i3)
      have g1 := cell0 j1
      have g2 := cell0 j2
      have g3 := cell0 j3
      have y1 := Lib.frozen_of_heap j1 0
      have y2 := Lib.frozen_of_heap j2 0
      have y3 := Lib.frozen_of_heap j3 0
      clear k0 k1 k2 k3 k4 k5 k6 k7 kf kz
      gi_wp2
      have HS : M.blocks (M.nodes t) n = (n + 1, n + 1 + ((M.nodes nd.th).length : Nat), n + 1 + ((M.nodes nd.th).length : Nat) + ((M.nodes nd.el).length : Nat)) := by rw [← HK.out]; exact M.blocks_yes HX.out
      have hlt : ∀ k, X k → k < W1.heap.size := fun k h => Nat.lt_of_lt_of_le (hX k h).2 hb1.size
      refine ⟨((((KeepX.of_below hb1 (fun k h => (hX k h).2)).trans (KeepX.of_below hb2 hlt)).trans (KeepX.setCell (p := ⟨c1, 0, none⟩) n1 _)).trans (KeepX.setCell (p := ⟨c2, 0, none⟩) n2 _)).trans (KeepX.setCell (p := ⟨c3, 0, none⟩) n3 _), ((hB2.setCell (p := ⟨c1, 0, none⟩) z1 _).setCell (p := ⟨c2, 0, none⟩) z2 _).setCell (p := ⟨c3, 0, none⟩) z3 _, rfl, ⟨?_, n1⟩, ⟨?_, n2⟩, ⟨?_, n3⟩⟩
      · rw [HS]; exact heap_set (heap_set (heap_set1 j1) x12) x13
      · rw [HS]; exact heap_set (heap_set1 (heap_set j2 (Ne.symm x12))) x23
      · rw [HS]; exact heap_set1 (heap_set (heap_set j3 (Ne.symm x13)) (Ne.symm x23))
    · have hkb : ((pre.length : Int) == n) = false := by simpa using hk
      have HK := hid hk
      clear hk
      gi_wp2
      refine ⟨KeepX.refl _ _, hB, ⟨i0, n0⟩, ⟨i1, n1⟩, ⟨i2, n2⟩, ⟨i3, n3⟩, fun h => ?_⟩
      have a1 := HNO.out
      have a2 := HK.out
      have a3 := a1 h
      simp
      omega
  case done =>
    rintro D X W hD hXD hB ⟨⟨i0, n0⟩, ⟨i1, n1⟩, ⟨i2, n2⟩, ⟨i3, n3⟩, hno⟩ hK
    have g1 := cell0 i1
    have g2 := cell0 i2
    have g3 := cell0 i3
    have y1 := Lib.frozen_of_heap i1 0
    have y2 := Lib.frozen_of_heap i2 0
    have y3 := Lib.frozen_of_heap i3 0
    obtain ⟨x01, x02, x03, x12, x13, x23⟩ := hd1
    obtain ⟨z0, z1, z2, z3⟩ := hd0
    have HS := hid (M.blocks_no hno)
    clear hno
    gi_wp2
    have hK' : (((W.setCell ⟨c1, 0, none⟩ (.int .i64 (-1))).setCell ⟨c2, 0, none⟩ (.int .i64 (-1))).setCell ⟨c3, 0, none⟩ (.int .i64 (-1))).heap[D]? = some (.deferred (some [])) := heap_set (heap_set (heap_set hK (fun e => n1 (e ▸ hXD))) (fun e => n2 (e ▸ hXD))) (fun e => n3 (e ▸ hXD))
    refine ⟨by simp, .inl ⟨_, _, rfl, run_takeDeferred hK', ?_⟩⟩
    have r1 := cell0 (box_put (o' := .deferred none) (heap_set (v := .int .i64 (-1)) (i := 0) (heap_set (v := .int .i64 (-1)) (i := 0) (heap_set1 (v := .int .i64 (-1)) i1) x12) x13) (fun e => n1 (e ▸ hXD) : c1 ≠ D))
    have r2 := cell0 (box_put (o' := .deferred none) (heap_set (v := .int .i64 (-1)) (i := 0) (heap_set1 (v := .int .i64 (-1)) (heap_set (v := .int .i64 (-1)) (i := 0) i2 (Ne.symm x12))) x23) (fun e => n2 (e ▸ hXD) : c2 ≠ D))
    have r3 := cell0 (box_put (o' := .deferred none) (heap_set1 (v := .int .i64 (-1)) (heap_set (v := .int .i64 (-1)) (i := 0) (heap_set (v := .int .i64 (-1)) (i := 0) i3 (Ne.symm x13)) (Ne.symm x23))) (fun e => n3 (e ▸ hXD) : c3 ≠ D))
    refine ⟨.tuple #[.int .i64 (-1), .int .i64 (-1), .int .i64 (-1)], ?_, by rw [HS.out], below_put (((hB.setCell (p := ⟨c1, 0, none⟩) z1 _).setCell (p := ⟨c2, 0, none⟩) z2 _).setCell (p := ⟨c3, 0, none⟩) z3 _) hD⟩
    simp [results, Try.f12, go_sem, r1, r2, r3]
  case stop =>
    rintro D c pre X W hD hXD hB ⟨rfl, ⟨i1, n1⟩, ⟨i2, n2⟩, ⟨i3, n3⟩⟩ hK
    gi_wp2
    refine ⟨by simp, .inl ⟨_, _, rfl, run_takeDeferred hK, ?_⟩⟩
    have r1 := cell0 (box_put (o' := .deferred none) i1 (fun e => n1 (e ▸ hXD) : c1 ≠ D))
    have r2 := cell0 (box_put (o' := .deferred none) i2 (fun e => n2 (e ▸ hXD) : c2 ≠ D))
    have r3 := cell0 (box_put (o' := .deferred none) i3 (fun e => n3 (e ▸ hXD) : c3 ≠ D))
    refine ⟨.tuple #[.int .i64 (M.blocks (M.nodes t) n).1, .int .i64 (M.blocks (M.nodes t) n).2.1, .int .i64 (M.blocks (M.nodes t) n).2.2], ?_, rfl, below_put hB hD⟩
    simp [results, Try.f12, go_sem, r1, r2, r3]
end Go.Proofs.Ytcjmjdgcehmigaa
