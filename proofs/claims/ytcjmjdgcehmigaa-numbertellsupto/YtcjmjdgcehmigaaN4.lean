/-
  The walks of number.Count and number.Sites: how many statements there are, and how many are sites. No conditions but a bound on how many there are.
-/
import Derived.Test.YtcjmjdgcehmigaaN3
set_option linter.unusedVariables false
set_option linter.unusedSimpArgs false
namespace Go.Proofs.Ytcjmjdgcehmigaa
open Go.RowKit Go.Shelf
attribute [local go_sem] Oper.semAt_some

set_option maxHeartbeats 400000 in
theorem numbered_any (w : World) (a : Option Addr) (n c : Nat) :
    Calls Try.prog 22 #[.slice a n c] w fun e w' => e = .returned (.func (.func 28) #[] #[.pointer (some ⟨w.heap.size, 0, none⟩)]) ∧ w' = w.alloc (.cells #[.slice a n c] 22) := by
  go_enter Try.func22, Try.ntmps22
  go_wp2
  go_ret
  exact ⟨rfl, rfl⟩
theorem numbered_sl (w : World) (a : Option Addr) (n c : Nat) :
    CallsIn Fence.wide 3 Try.prog 22 #[.slice a n c] w fun e w' => e = .returned (.func (.func 28) #[] #[.pointer (some ⟨w.heap.size, 0, none⟩)]) ∧ w' = w.alloc (.cells #[.slice a n c] 22) :=
  callsIn_wide.2 (numbered_any w _ _ _)
/-- the statements of t are told -/
theorem seq_of {w0 w : World} {v : Value} {t : M.Tr} {Bn : Nat} (hv : StmAt w0 NoX v t) (hN : (M.nodes t).length ≤ 4294967296) (hb : Below w0.heap.size w0 w) (hbox : w.heap[Bn]? = some (.cells #[v] 22 (0, 0))) :
    ∀ W, Below w.heap.size w W → SeqX Fence.wide 3 Try.prog 28 #[.pointer (some ⟨Bn, 0, none⟩)] It.enc It.nd (It.at w0) (M.nodes t) w0 W :=
  fun W hW l J Jx hJ hJx hY h0 => numbered1_in l Bn w0 W v t J Jx hv hN hJ hJx (hb.trans (hW.mono hb.size)) (cell0 (kept hW hbox)) hY h0
theorem It.form {w : World} {x : It} (h : It.at w x) : ∃ nd q1 m1 q3 m3 q5 m5 q7 m7, x = ⟨nd, .slice q1 nd.a.length m1, .slice q3 nd.pr.length m3, .slice q5 nd.th.len m5, .slice q7 nd.el.len m7⟩ := by
  obtain ⟨nd, va, vp, vt, ve⟩ := x
  obtain ⟨h1, h2, h3, h4⟩ := h
  obtain ⟨q1, m1, e1⟩ := SlAt.form h1
  obtain ⟨q3, m3, e3⟩ := SlAt.form h2
  obtain ⟨q5, m5, e5⟩ := StmAt.form h3
  obtain ⟨q7, m7, e7⟩ := StmAt.form h4
  simp only at e1 e3 e5 e7
  subst e1 e3 e5 e7
  exact ⟨nd, q1, m1, q3, m3, q5, m5, q7, m7, rfl⟩
def It.obj (x : It) : Obj := .cells #[.int .i64 x.nd.op, .string x.nd.x, .string x.nd.y, .string x.nd.p, x.va, x.vp, x.vt, x.ve] 36 (0, 0)
/-- a box of one's own -/
theorem ab_box {β : Type} (B : Nat) (f : β → Obj) : Ab (fun s X W => W.heap[B]? = some (f s) ∧ ¬ X B) := by
  rintro s X Y W W' ⟨h1, h2⟩ ht hy
  have hlt := (Array.getElem?_eq_some_iff.1 h1).1
  refine ⟨(ht.block B hlt h2).trans h1, fun h => ?_⟩
  rcases hy B h with h | h
  · exact h2 h
  · omega
theorem ab_no {β : Type} : Ab (fun (_ : β) _ _ => False) := fun _ _ _ _ _ h _ _ => h
theorem box_put {W : World} {B D : Nat} {o o' : Obj} (h : W.heap[B]? = some o) (hd : B ≠ D) : (W.putObj D o').heap[B]? = some o := (World.putObj_heap_other hd).trans h
theorem below_put {n : Nat} {a W : World} {D : Nat} {o : Obj} (h : Below n a W) (hD : n ≤ D) : Below n a (W.putObj D o) :=
  h.trans ⟨rfl, rfl, rfl, by simp, fun k hk => World.putObj_heap_other (by omega)⟩

/-- a round has begun: its statement lies in a new box -/
def AxBox (I : List M.Nd → (Nat → Prop) → World → Prop) (w0 : World) (mk : Nat → It → Nat → Act) (pre : List M.Nd) (x : It) (X : Nat → Prop) (a' : Act) (W : World) : Prop :=
  I pre X W ∧ Below w0.heap.size w0 W ∧ ∃ sb, (W.heap[sb]? = some (It.obj x) ∧ ¬ X sb) ∧ a' = mk pre.length x sb
theorem AxBox.turn {I : List M.Nd → (Nat → Prop) → World → Prop} {w0 : World} {mk : Nat → It → Nat → Act} (hI : Ab I) : ∀ pre x X a' W W', AxBox I w0 mk pre x X a' W → Turn X W W' → (∀ k, X k → w0.heap.size ≤ k) → AxBox I w0 mk pre x X a' W' := by
  rintro pre x X a' W W' ⟨h1, h2, sb, h3, h4⟩ ht hX
  exact ⟨hI _ _ _ _ _ h1 ht (fun k hk => .inl hk), ht.below h2 h2.size hX, sb, ab_box (β := It) sb It.obj x X X W W' h3 ht (fun k hk => .inl hk), h4⟩
theorem AxBox.new {I : List M.Nd → (Nat → Prop) → World → Prop} {w0 : World} {mk : Nat → It → Nat → Act} (hI : Ab I) {pre : List M.Nd} {x : It} {X : Nat → Prop} {a' : Act} {W : World} (hX : ∀ k, X k → w0.heap.size ≤ k ∧ k < W.heap.size) (hB : Below w0.heap.size w0 W) (hi : I pre X W) (he : a' = mk pre.length x W.heap.size) :
    KeepX X W (W.alloc (It.obj x)) ∧ AxBox I w0 mk pre x X a' (W.alloc (It.obj x)) := by
  have hba : Below W.heap.size W (W.alloc (It.obj x)) := (Below.refl _ _).alloc (Nat.le_refl _) _
  exact ⟨KeepX.of_below hba (fun k h => (hX k h).2), hI _ _ _ _ _ hi (.of_below hba) (fun k hk => .inl hk), hB.trans (hba.mono hB.size), W.heap.size, ⟨heap_alloc_new W _, fun h => Nat.lt_irrefl _ (hX _ h).2⟩, he⟩

set_option maxRecDepth 16000 in
set_option maxHeartbeats 2000000 in
theorem count_any (w : World) (v : Value) (t : M.Tr) (hv : StmAt w NoX v t) (hN : (M.nodes t).length ≤ 4294967296) :
    Calls Try.prog 17 #[v] w fun e w' => e = .returned (.int .i64 ((M.nodes t).length : Nat)) ∧ Below w.heap.size w w' := by
  obtain ⟨va, vc, rfl⟩ := StmAt.form hv
  refine (callsIn_wide (n := 4)).1 ?_
  refine callsIn_of_wp_marks Try.func17 rfl trivial ?_ rfl
  simp only [Try.ntmps17, List.size_toArray, List.length_cons, List.length_nil, Nat.reduceAdd, Nat.reduceSub, Array.replicate_succ, Array.replicate_zero, List.push_toArray, List.append_toArray, List.nil_append, List.cons_append]
  gi_wp2_with (refine ⟨trivial, ?_⟩; gi_at_call 22; refine (numbered_sl _ _ _ _).mono ?_; rintro e w' ⟨rfl, rfl⟩)
  have hc := heap_alloc_new w (.cells #[.int .i64 0] 3)
  have hbx := heap_alloc_new (w.alloc (.cells #[.int .i64 0] 3)) (.cells #[.slice va t.len vc] 22)
  rw [World.size_alloc] at hbx
  have hB0 : Below w.heap.size w ((w.alloc (.cells #[.int .i64 0] 3)).alloc (.cells #[.slice va t.len vc] 22)) := ((Below.refl _ w).alloc (Nat.le_refl _) _).alloc (by simp) _
  refine wpIn_rangeX (w0 := w) (n := 4) (α := It) (β := M.Nd) rfl (by omega) (gf := 28) (lb := #[.pointer (some ⟨w.heap.size + 1, 0, none⟩)]) rfl trivial (enters_of Try.func28 (by kernel_rfl) rfl)
    (seq_of hv hN hB0 hbx) hB0 (by intros; rfl)
    (fun pre X W => W.heap[w.heap.size]? = some (.cells #[.int .i64 ((pre.length : Nat) : Int)] 3 (0, 0)) ∧ ¬ X w.heap.size) (fun _ _ _ _ => False) (ab_box _ _) (fun _ => ab_no)
    ⟨(Below.heap_alloc _ _ _ (by simp)).trans hc, by simp; omega⟩
    (fun pre x X a' W => (W.heap[w.heap.size]? = some (.cells #[.int .i64 ((pre.length : Nat) : Int)] 3 (0, 0)) ∧ ¬ X w.heap.size) ∧ Below w.heap.size w W ∧ a' = { tmps := #[.slice va t.len vc, undef, .int .i64 0, .pointer (some ⟨w.heap.size, 0, none⟩), .slice va t.len vc, .func (.func 28) #[] #[.pointer (some ⟨w.heap.size + 1, 0, none⟩)], .int .i64 pre.length, x.val, undef, undef, undef], defers := [] })
    (fun pre x X a' W W' h ht hX => ⟨ab_box (β := List M.Nd) w.heap.size (fun pre => .cells #[.int .i64 ((pre.length : Nat) : Int)] 3 (0, 0)) pre X X W W' h.1 ht (fun k hk => .inl hk), ht.below h.2.1 h.2.1.size hX, h.2.2⟩)
    ?assign ?body ?done ?stop
  case assign =>
    intro l pre x post X W hxs hok hX hB hI
    gi_wp2
    exact ⟨KeepX.refl _ _, hI, hB, by simp [It.enc]⟩
  case body =>
    rintro l pre x post X a' W hxs hok hX ⟨⟨hi, hn⟩, hB, rfl⟩
    have hpl : pre.length < 4294967296 := by have := congrArg List.length hxs; simp only [List.length_append, List.length_cons] at this; omega
    clear hxs
    have hc1 := cell0 hi
    have hf1 := Lib.frozen_of_heap hi 0
    gi_wp2
    refine ⟨KeepX.setCell (p := ⟨w.heap.size, 0, none⟩) hn _, hB.setCell (p := ⟨w.heap.size, 0, none⟩) (Nat.le_refl _) _, ?_, hn⟩
    have := heap_setCell_same _ _ 0 _ _ (.int .i64 ((pre.length : Int) + 1)) hi
    simpa using this
  case done =>
    rintro D X W hD hXD hB ⟨hi, hn⟩ hK
    have hc1 := cell0 hi
    gi_wp2
    refine ⟨by simp, .inl ⟨_, _, rfl, run_takeDeferred hK, ?_⟩⟩
    exact ⟨_, results_tmp rfl _ _ _, rfl, below_put hB hD⟩
  case stop =>
    rintro D c pre X W _ _ _ h _
    exact h.elim

set_option maxRecDepth 16000 in
set_option maxHeartbeats 2000000 in
theorem sites_any (w : World) (v : Value) (t : M.Tr) (hv : StmAt w NoX v t) (hN : (M.nodes t).length ≤ 4294967296) :
    Calls Try.prog 18 #[v] w fun e w' => e = .returned (.int .i64 (M.sites (M.nodes t) : Nat)) ∧ Below w.heap.size w w' := by
  obtain ⟨va, vc, rfl⟩ := StmAt.form hv
  refine (callsIn_wide (n := 4)).1 ?_
  refine callsIn_of_wp_marks Try.func18 rfl trivial ?_ rfl
  simp only [Try.ntmps18, List.size_toArray, List.length_cons, List.length_nil, Nat.reduceAdd, Nat.reduceSub, Array.replicate_succ, Array.replicate_zero, List.push_toArray, List.append_toArray, List.nil_append, List.cons_append]
  gi_wp2_with (refine ⟨trivial, ?_⟩; gi_at_call 22; refine (numbered_sl _ _ _ _).mono ?_; rintro e w' ⟨rfl, rfl⟩)
  have hc := heap_alloc_new w (.cells #[.int .i64 0] 3)
  have hbx := heap_alloc_new (w.alloc (.cells #[.int .i64 0] 3)) (.cells #[.slice va t.len vc] 22)
  rw [World.size_alloc] at hbx
  have hB0 : Below w.heap.size w ((w.alloc (.cells #[.int .i64 0] 3)).alloc (.cells #[.slice va t.len vc] 22)) := ((Below.refl _ w).alloc (Nat.le_refl _) _).alloc (by simp) _
  have hIab : Ab (fun (pre : List M.Nd) X W => W.heap[w.heap.size]? = some (.cells #[.int .i64 ((M.sites pre : Nat) : Int)] 3 (0, 0)) ∧ ¬ X w.heap.size) := ab_box _ _
  refine wpIn_rangeX (w0 := w) (n := 4) (α := It) (β := M.Nd) rfl (by omega) (gf := 28) (lb := #[.pointer (some ⟨w.heap.size + 1, 0, none⟩)]) rfl trivial (enters_of Try.func28 (by kernel_rfl) rfl)
    (seq_of hv hN hB0 hbx) hB0 (by intros; rfl) _ (fun _ _ _ _ => False) hIab (fun _ => ab_no)
    ⟨(Below.heap_alloc _ _ _ (by simp)).trans hc, by simp; omega⟩
    (AxBox _ w fun n x sb => { tmps := #[.slice va t.len vc, undef, .int .i64 0, .pointer (some ⟨w.heap.size, 0, none⟩), undef, .pointer (some ⟨sb, 0, none⟩), .slice va t.len vc, .func (.func 28) #[] #[.pointer (some ⟨w.heap.size + 1, 0, none⟩)], .int .i64 n, x.val, undef, undef, undef, undef, undef, undef], defers := [] })
    (AxBox.turn hIab) ?assign ?body ?done ?stop
  case assign =>
    intro l pre x post X W hxs hok hX hB hI
    obtain ⟨nd, q1, m1, q3, m3, q5, m5, q7, m7, rfl⟩ := It.form hok
    simp only [It.enc, It.val]
    gi_wp2
    exact AxBox.new (x := ⟨nd, .slice q1 nd.a.length m1, .slice q3 nd.pr.length m3, .slice q5 nd.th.len m5, .slice q7 nd.el.len m7⟩) hIab hX hB hI rfl
  case body =>
    rintro l pre x post X a' W hxs hok hX ⟨⟨hi, hn⟩, hB, sb, ⟨hs, hns⟩, rfl⟩
    obtain ⟨nd, q1, m1, q3, m3, q5, m5, q7, m7, rfl⟩ := It.form hok
    have hpl : pre.length < 4294967296 := by have := congrArg List.length hxs; simp only [List.length_append, List.length_cons] at this; omega
    have hsl := M.sites_le pre
    clear hxs
    have hc1 := cell0 hi
    have hf1 := Lib.frozen_of_heap hi 0
    obtain ⟨k0, k1, k2, k3, k4, k5, k6, k7, kf, kz⟩ := cells8 hs
    simp only [It.val]
    by_cases h4 : nd.op = 4
    · have h4b : (nd.op == 4) = true := by simpa using h4
      have HS : Hid (M.sites (pre ++ [nd]) = M.sites pre + 1) := by unfold Hid; rw [M.sites_snoc, if_pos h4]
      clear h4
      gi_wp2
      refine ⟨KeepX.setCell (p := ⟨w.heap.size, 0, none⟩) hn _, hB.setCell (p := ⟨w.heap.size, 0, none⟩) (Nat.le_refl _) _, ?_, hn⟩
      have := heap_setCell_same _ _ 0 _ _ (.int .i64 ((M.sites pre : Int) + 1)) hi
      rw [HS.out]
      simpa using this
    · have h4b : (nd.op == 4) = false := by simpa using h4
      have HS : Hid (M.sites (pre ++ [nd]) = M.sites pre) := by unfold Hid; rw [M.sites_snoc, if_neg h4]; rfl
      clear h4
      gi_wp2
      exact ⟨KeepX.refl _ _, hB, by rw [HS.out]; exact hi, hn⟩
  case done =>
    rintro D X W hD hXD hB ⟨hi, hn⟩ hK
    have hc1 := cell0 hi
    gi_wp2
    refine ⟨by simp, .inl ⟨_, _, rfl, run_takeDeferred hK, ?_⟩⟩
    exact ⟨_, results_tmp rfl _ _ _, rfl, below_put hB hD⟩
  case stop =>
    rintro D c pre X W _ _ _ h _
    exact h.elim
end Go.Proofs.Ytcjmjdgcehmigaa
