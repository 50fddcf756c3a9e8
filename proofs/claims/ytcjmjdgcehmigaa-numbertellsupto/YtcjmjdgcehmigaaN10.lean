/-
  The walk of number.List: the statements by their numbers, each whole. No conditions but bounds on how many there are.
-/
import Derived.Test.YtcjmjdgcehmigaaN9
set_option linter.unusedVariables false
set_option linter.unusedSimpArgs false
namespace Go.Proofs.Ytcjmjdgcehmigaa
open Go.RowKit Go.Shelf
attribute [local go_sem] Oper.semAt_some

theorem few_nodes {N : Nat} : ∀ (t : M.Tr), Few N t → ∀ d ∈ M.nodes t, d.a.length ≤ N ∧ d.pr.length ≤ N ∧ Few N d.th ∧ Few N d.el
  | .nil, _, d, h => by simp [M.nodes] at h
  | .cons op x y p a pr th el nx, hf, d, h => by
    obtain ⟨f1, f2, f3, f4, f5⟩ := hf
    simp only [M.nodes, List.mem_cons, List.mem_append] at h
    rcases h with rfl | h | h | h
    · exact ⟨f1, f2, f3, f4⟩
    · exact few_nodes th f3 d h
    · exact few_nodes el f4 d h
    · exact few_nodes nx f5 d h
theorem own_turn {w w' : World} {base e n : Nat} {v : Value} {xs : List Value} (h : w.ownsRow base e 8 v n xs) (hs : ∀ g, v.ownBlock = some g → w'.heap[g]? = w.heap[g]?) : w'.ownsRow base e 8 v n xs := by
  refine ⟨h.1, ?_⟩
  rcases h.2 with h2 | ⟨g, cap, cur, rfl, hb, hh, hc⟩
  · exact .inl h2
  · exact .inr ⟨g, cap, cur, rfl, hb, (hs g rfl).trans hh, hc⟩
/-- the list so far -/
def ListI (w0 : World) (c0 : Nat) (pre : List M.Nd) (X : Nat → Prop) (W : World) : Prop :=
  ∃ lq cap cells, W.heap[c0]? = some (.cells #[.slice lq pre.length cap] 22 (0, 0)) ∧ ¬ X c0 ∧ W.ownsRow w0.heap.size 36 8 (.slice lq pre.length cap) pre.length cells ∧
    (∀ g, (Value.slice lq pre.length cap).ownBlock = some g → ¬ X g ∧ g ≠ c0) ∧ RowAt W (fun b => X b ∨ b = c0 ∨ (Value.slice lq pre.length cap).ownBlock = some b) cells (M.toTr pre)
theorem listI_ab (w0 : World) (c0 : Nat) : Ab (ListI w0 c0) := by
  rintro pre X Y W W' ⟨lq, cap, cells, h1, h2, h3, h4, h5⟩ ht hy
  have hlt := (Array.getElem?_eq_some_iff.1 h1).1
  refine ⟨lq, cap, cells, (ht.block c0 hlt h2).trans h1, fun h => ?_, own_turn h3 (fun g hg => ht.block g (h3.lt g hg).2 (h4 g hg).1), fun g hg => ⟨fun h => ?_, (h4 g hg).2⟩, ?_⟩
  · rcases hy c0 h with h | h
    · exact h2 h
    · omega
  · have := (h3.lt g hg).2
    rcases hy g h with h | h
    · exact (h4 g hg).1 h
    · omega
  · have k1 := RowAt.weak (Y := fun b => X b ∨ Y b ∨ b = c0 ∨ (Value.slice lq pre.length cap).ownBlock = some b) (fun b hb hx h => by
      rcases h with h | h | h | h
      · exact hx (.inl h)
      · rcases hy b h with h | h
        · exact hx (.inl h)
        · omega
      · exact hx (.inr (.inl h))
      · exact hx (.inr (.inr h))) h5
    have k2 := RowAt.keep (w' := W') ⟨ht.size, fun k hk hx => ht.block k hk (fun h => hx (.inl h))⟩ k1
    exact RowAt.weak (fun b _ hx h => hx (.inr h)) k2

set_option maxRecDepth 16000 in
set_option maxHeartbeats 4000000 in
theorem list_any (w : World) (v : Value) (t : M.Tr) (hv : StmAt w NoX v t) (hN : (M.nodes t).length ≤ 4294967296) (hF : Few 4294967296 t) :
    Calls Try.prog 16 #[v] w fun e w' => ∃ q m, e = .returned (.slice q (M.nodes t).length m) ∧ StmAt w' NoX (.slice q (M.nodes t).length m) (M.toTr (M.nodes t)) ∧ Below w.heap.size w w' := by
  obtain ⟨va, vc, rfl⟩ := StmAt.form hv
  refine (callsIn_wide (n := 4)).1 ?_
  refine callsIn_of_wp_marks Try.func16 rfl trivial ?_ rfl
  simp only [Try.ntmps16, List.size_toArray, List.length_cons, List.length_nil, Nat.reduceAdd, Nat.reduceSub, Array.replicate_succ, Array.replicate_zero, List.push_toArray, List.append_toArray, List.nil_append, List.cons_append]
  gi_wp2_with (refine ⟨trivial, ?_⟩; gi_at_call 22; refine (numbered_sl _ _ _ _).mono ?_; rintro e w' ⟨rfl, rfl⟩)
  have hc := heap_alloc_new w (.cells #[.slice none 0 0] 22)
  have hbx := heap_alloc_new (w.alloc (.cells #[.slice none 0 0] 22)) (.cells #[.slice va t.len vc] 22)
  rw [World.size_alloc] at hbx
  have hB0 : Below w.heap.size w ((w.alloc (.cells #[.slice none 0 0] 22)).alloc (.cells #[.slice va t.len vc] 22)) := ((Below.refl _ w).alloc (Nat.le_refl _) _).alloc (by simp) _
  obtain ⟨c0, hc0⟩ : ∃ c0, c0 = w.heap.size := ⟨_, rfl⟩
  have hn0 : Value.pointer (some { block := w.heap.size, off := 0 }) = Value.pointer (some { block := c0, off := 0 }) := by rw [hc0]
  rw [hn0]
  have hle : w.heap.size ≤ c0 := by omega
  have e0 := heap_al (o' := .cells #[.slice va t.len vc] 22) hc
  rw [← hc0] at e0
  have e1 : ¬ ((w.alloc (.cells #[.slice none 0 0] 22)).alloc (.cells #[.slice va t.len vc] 22)).heap.size ≤ c0 := by simp; omega
  clear hc0 hn0
  refine wpIn_rangeX (w0 := w) (n := 4) (α := It) (β := M.Nd) rfl (by omega) (gf := 28) (lb := #[.pointer (some ⟨w.heap.size + 1, 0, none⟩)]) rfl trivial (enters_of Try.func28 (by kernel_rfl) rfl)
    (seq_of hv hN hB0 hbx) hB0 (by intros; rfl) (ListI w c0) (fun _ _ _ _ => False) (listI_ab w c0) (fun _ => ab_no)
    ⟨none, 0, [], e0, e1, World.ownsRow_nil _ _ _ _, by simp [Value.ownBlock], rfl⟩
    (AxBox (ListI w c0) w fun k x sb => { tmps := #[.slice va t.len vc, undef, .slice none 0 0, .pointer (some ⟨c0, 0, none⟩), undef, .pointer (some ⟨sb, 0, none⟩), .slice va t.len vc, .func (.func 28) #[] #[.pointer (some ⟨w.heap.size + 1, 0, none⟩)], .int .i64 k, x.val, undef, undef, undef, undef, undef, undef, undef, undef], defers := [] })
    (AxBox.turn (listI_ab w c0)) ?assign ?body ?done ?stop
  case assign =>
    intro l pre x post X W hxs hok hX hB hI
    obtain ⟨nd, q1, m1, q3, m3, q5, m5, q7, m7, rfl⟩ := It.form hok
    simp only [It.enc, It.val]
    gi_wp2
    exact AxBox.new (x := ⟨nd, .slice q1 nd.a.length m1, .slice q3 nd.pr.length m3, .slice q5 nd.th.len m5, .slice q7 nd.el.len m7⟩) (listI_ab w c0) hX hB hI rfl
  case body =>
    rintro l pre x post X a' W hxs hok hX ⟨⟨lq, cap, cells, i1, i2, i3, i4, i5⟩, hB, sb, ⟨hs, hns⟩, rfl⟩
    have hok' := hok
    obtain ⟨nd, qa, ma, qp, mp, qt, mt, qe, me, rfl⟩ := It.form hok
    obtain ⟨oA, oP, oT, oE⟩ := hok'
    simp only at oA oP oT oE
    have hpl : pre.length < 4294967296 := by have := congrArg List.length hxs; simp only [List.length_append, List.length_cons] at this; omega
    have hsub := nodes_sub (l := []) hxs
    simp only [M.nodes_len] at hsub hN
    obtain ⟨fa, fp, ft, fe⟩ := few_nodes t hF nd (by rw [hxs]; simp)
    clear hxs
    simp only [It.val]
    have hc0l : c0 < W.heap.size := (Array.getElem?_eq_some_iff.1 i1).1
    gi_wp2
    refine wpIn_region_any (by kernel_rfl) ?_
    change wpAnyIn (Fence.wide.inRound l) 2 Try.prog .any listOps _ 9 #[false, false, false, false, false, false, false, false, false] _ W.drew
    refine listRegion l _ _ _ _ _ _ _ _ _ _ c0 sb w.heap.size pre.length cap W.drew lq cells nd qa qp qt qe ma mp mt me i1 hs i3 hB.size (fun g hg => (i4 g hg).2) (by omega) ?_ ?_
    · intro w1 hb1
      have hB1 : Below w.heap.size w w1 := hB.trans (Below.mono (B := W.heap.size) ⟨hb1.os, hb1.tape, hb1.output, hb1.size, hb1.block⟩ hB.size)
      refine (copied_any (nd.th.sz + nd.el.sz) (copBlock _) w1 nd _ _ _ _ (SlAt.bel oA hB1) (SlAt.bel oP hB1) (oT.bel hB1) (oE.bel hB1) (by omega) (by omega) (by omega) (by omega) fa fp ft fe).mono ?_
      rintro e w2 ⟨q1, m1, q2, m2, q3, m3, q4, m4, h1, h2, h3, h4, h5, h6⟩
      exact ⟨q1, m1, q2, m2, q3, m3, q4, m4, h1, ⟨h2, h3, h4, h5⟩, h6⟩
    · intro w' g cap' q1 m1 q2 m2 q3 m3 q4 m4 a ht f1 f2 f3 f4
      replace ht : Turn (fun k => k = c0 ∨ (Value.slice lq pre.length cap).ownBlock = some k) W w' := ⟨ht.os, ht.tape, ht.output, ht.size, ht.block⟩
      replace f3 : (Value.slice lq pre.length cap).ownBlock = some g ∨ W.heap.size ≤ g := f3
      replace f4 : Cop w' (fun b => b < W.heap.size ∨ b = g) nd q1 m1 q2 m2 q3 m3 q4 m4 := f4
      show KeepX X W w' ∧ Below w.heap.size w w' ∧ ListI w c0 (pre ++ [nd]) X w'
      have hgX : ¬ X g ∧ g ≠ c0 := by
        rcases f3 with h | h
        · exact i4 g h
        · exact ⟨fun hx => by have := (hX g hx).2; omega, by omega⟩
      refine ⟨⟨ht.size, fun k hx => ht.block k (hX k hx).2 (fun h => ?_)⟩, ht.below hB hB.size (fun k h => ?_), ?_⟩
      · rcases h with h | h
        · exact i2 (h ▸ hx)
        · exact (i4 k h).1 hx
      · rcases h with h | h
        · omega
        · exact (i3.lt k h).1
      · have hlen : (pre ++ [nd]).length = pre.length + 1 := by simp
        refine ⟨some ⟨g, 0, none⟩, cap', _, by rw [hlen]; exact f1, i2, by rw [hlen]; exact f2, fun g' hg' => by simp [Value.ownBlock] at hg'; subst hg'; exact hgX, ?_⟩
        rw [M.toTr_app]
        refine RowAt.app ?_ ?_
        · have k1 := RowAt.weak (Y := fun b => X b ∨ b = c0 ∨ (Value.slice lq pre.length cap).ownBlock = some b ∨ b = g) (fun b hb hx h => by
            rcases h with h | h | h | h
            · exact hx (.inl h)
            · exact hx (.inr (.inl h))
            · exact hx (.inr (.inr h))
            · subst h
              rcases f3 with h | h
              · exact hx (.inr (.inr h))
              · omega) i5
          have k2 := RowAt.keep (w' := w') ⟨ht.size, fun k hk hx => ht.block k hk (fun h => hx (by rcases h with h | h; exact .inr (.inl h); exact .inr (.inr (.inl h))))⟩ k1
          refine RowAt.weak (fun b _ hx h => hx ?_) k2
          rcases h with h | h | h
          · exact .inl h
          · exact .inr (.inl h)
          · simp [Value.ownBlock] at h; exact .inr (.inr (.inr h.symm))
        · have k1 := f4.weak (Y := fun b => X b ∨ b = c0 ∨ (Value.slice (some ⟨g, 0, none⟩) (pre ++ [nd]).length cap').ownBlock = some b) (fun b hb hx h => by
            rcases h with h | h | h
            · exact hx (.inl (hX b h).2)
            · exact hx (.inl (by omega))
            · simp [Value.ownBlock] at h; exact hx (.inr h.symm))
          exact RowAt.one k1.1 k1.2.1 k1.2.2.1 k1.2.2.2
  case done =>
    rintro D X W hD hXD hB ⟨lq, cap, cells, i1, i2, i3, i4, i5⟩ hK
    have g1 := cell0 i1
    gi_wp2
    refine ⟨by simp, .inl ⟨_, _, rfl, run_takeDeferred hK, ?_⟩⟩
    refine ⟨_, results_tmp rfl _ _ _, _, _, rfl, ⟨cells, ?_, ?_⟩, below_put hB hD⟩
    · rw [M.toTr_len]
      exact SlAt.of_owns (own_turn i3 (fun g hg => World.putObj_heap_other (fun e => (i4 g hg).1 (e ▸ hXD)))) (fun b _ h => h) (by omega)
    · exact RowAt.weak (fun b _ _ h => h) (RowAt.keep (w' := W.putObj D (.deferred none)) ⟨by simp, fun k _ hx => World.putObj_heap_other (fun e => hx (.inl (e ▸ hXD)))⟩ i5)
  case stop =>
    rintro D c pre X W _ _ _ h _
    exact h.elim
end Go.Proofs.Ytcjmjdgcehmigaa
