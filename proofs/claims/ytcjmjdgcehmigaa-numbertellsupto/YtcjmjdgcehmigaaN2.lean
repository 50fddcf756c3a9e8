/-
  A range over a function that keeps a list of its own in memory: what its loop's body and it promise each other, and the law for the loop. Nothing of the program is named here. No conditions.
-/
import Derived.RangeFuncRecord
import Derived.RangeFuncCalls
import Derived.RangeFuncBound
import Derived.Test.YtcjmjdgcehmigaaB1
set_option linter.unusedVariables false
namespace Go.Proofs.Ytcjmjdgcehmigaa
open Go.RowKit

/-- nothing but blocks of X has turned -/
structure Turn (X : Nat → Prop) (W W' : World) : Prop where
  os : W'.os = W.os
  tape : W'.tape = W.tape
  output : W'.output = W.output
  size : W.heap.size ≤ W'.heap.size
  block : ∀ k, k < W.heap.size → ¬ X k → W'.heap[k]? = W.heap[k]?
theorem Turn.refl (X : Nat → Prop) (W : World) : Turn X W W := ⟨rfl, rfl, rfl, Nat.le_refl _, fun _ _ _ => rfl⟩
theorem Turn.trans {X : Nat → Prop} {a b c : World} (h : Turn X a b) (k : Turn X b c) : Turn X a c :=
  ⟨k.os.trans h.os, k.tape.trans h.tape, k.output.trans h.output, Nat.le_trans h.size k.size, fun i hi hx => (k.block i (Nat.lt_of_lt_of_le hi h.size) hx).trans (h.block i hi hx)⟩
theorem Turn.mono {X Y : Nat → Prop} {a b : World} (h : Turn X a b) (hw : ∀ k, X k → Y k) : Turn Y a b := ⟨h.os, h.tape, h.output, h.size, fun k hk hy => h.block k hk fun hx => hy (hw k hx)⟩
theorem Turn.of_below {X : Nat → Prop} {w w' : World} (h : Below w.heap.size w w') : Turn X w w' := ⟨h.os, h.tape, h.output, h.size, fun k hk _ => h.block k hk⟩
theorem Turn.alloc {X : Nat → Prop} {a w : World} (h : Turn X a w) (o : Obj) : Turn X a (w.alloc o) := h.trans (.of_below ((Below.refl _ _).alloc (Nat.le_refl _) o))
theorem Turn.drew {X : Nat → Prop} {a w : World} (h : Turn X a w) : Turn X a w.drew := ⟨h.os, h.tape, h.output, h.size, h.block⟩
theorem Turn.setCell {X : Nat → Prop} {a w : World} (h : Turn X a w) {p : Addr} (hp : X p.block ∨ a.heap.size ≤ p.block) (u : Value) : Turn X a (w.setCell p u) :=
  ⟨h.os, h.tape, h.output, by simpa [World.setCell] using h.size, fun k hk hx => by
    rw [Below.heap_setCell _ _ _ _ (fun e => by rcases hp with hp | hp; exact hx (e ▸ hp); omega)]; exact h.block k hk hx⟩
theorem Turn.grown {X : Nat → Prop} {a w w' : World} {row : Option Nat} (h : Turn X a w) (hg : w.grownBy w' row) (hr : ∀ k, row = some k → X k ∨ a.heap.size ≤ k) : Turn X a w' :=
  ⟨hg.os.trans h.os, hg.tape.trans h.tape, hg.output.trans h.output, Nat.le_trans h.size hg.size, fun k hk hx => by
    rw [hg.block k (Nat.lt_of_lt_of_le hk h.size) (fun e => by rcases hr k e.symm with hp | hp; exact hx hp; omega)]; exact h.block k hk hx⟩
theorem Turn.putObj {X : Nat → Prop} {a w : World} (h : Turn X a w) {l : Nat} (hl : X l) (o : Obj) : Turn X a (w.putObj l o) :=
  ⟨h.os, h.tape, h.output, by simpa using h.size, fun k hk hx => (World.putObj_heap_other (fun e => by subst e; exact hx hl)).trans (h.block k hk hx)⟩
theorem Turn.below {X : Nat → Prop} {n : Nat} {a w w' : World} (hb : Below n a w) (h : Turn X w w') (hn : n ≤ w.heap.size) (hX : ∀ k, X k → n ≤ k) : Below n a w' :=
  hb.trans ⟨h.os, h.tape, h.output, h.size, fun k hk => h.block k (by omega) (fun hx => by have := hX k hx; omega)⟩
/-- the blocks of X lie as they lay -/
structure KeepX (X : Nat → Prop) (W W' : World) : Prop where
  size : W.heap.size ≤ W'.heap.size
  same : ∀ k, X k → W'.heap[k]? = W.heap[k]?
theorem KeepX.refl (X : Nat → Prop) (W : World) : KeepX X W W := ⟨Nat.le_refl _, fun _ _ => rfl⟩
theorem KeepX.trans {X : Nat → Prop} {a b c : World} (h : KeepX X a b) (k : KeepX X b c) : KeepX X a c := ⟨Nat.le_trans h.size k.size, fun i hx => (k.same i hx).trans (h.same i hx)⟩
theorem KeepX.mono {X Y : Nat → Prop} {a b : World} (h : KeepX X a b) (hw : ∀ k, Y k → X k) : KeepX Y a b := ⟨h.size, fun k hk => h.same k (hw k hk)⟩
theorem KeepX.of_below {X : Nat → Prop} {w w' : World} (h : Below w.heap.size w w') (hX : ∀ k, X k → k < w.heap.size) : KeepX X w w' := ⟨h.size, fun k hx => h.block k (hX k hx)⟩
theorem KeepX.setCell {X : Nat → Prop} {w : World} {p : Addr} (hp : ¬ X p.block) (u : Value) : KeepX X w (w.setCell p u) :=
  ⟨by simp [World.setCell], fun k hk => Below.heap_setCell _ _ _ _ fun e => hp (e ▸ hk)⟩
theorem KeepX.putObj {X : Nat → Prop} {w : World} {l : Nat} (hp : ¬ X l) (o : Obj) : KeepX X w (w.putObj l o) := ⟨by simp, fun k hk => World.putObj_heap_other fun e => by subst e; exact hp hk⟩
theorem KeepX.grown {X : Nat → Prop} {w w' : World} {row : Option Nat} (hg : w.grownBy w' row) (hX : ∀ k, X k → k < w.heap.size) (hr : ∀ k, row = some k → ¬ X k) : KeepX X w w' :=
  ⟨hg.size, fun k hk => hg.block k (hX k hk) fun e => hr k e.symm hk⟩

/-- what is said does not mind that blocks of X turn, and that there are new ones -/
def Ab {β : Type} (J : β → (Nat → Prop) → World → Prop) : Prop :=
  ∀ s X Y W W', J s X W → Turn X W W' → (∀ k, Y k → X k ∨ W.heap.size ≤ k) → J s Y W'

section
variable {α β : Type}
/-- a function that tells xs, one by one, and keeps its own blocks -/
def SeqX (F : Fence) (n : Nat) (P : Program) (g : Nat) (lb : Array Value) (enc : Nat → α → Array Value) (nd : α → β) (ok : α → Prop) (xs : List β) (w0 W : World) : Prop :=
  ∀ (l : Nat) (J Jx : List β → (Nat → Prop) → World → Prop), Ab J → Ab Jx →
    (∀ pre x post X W1, xs = pre ++ nd x :: post → ok x → (∀ k, X k → w0.heap.size ≤ k ∧ k < W1.heap.size) → Below w0.heap.size w0 W1 → J pre X W1 → YieldAt F (n - 1) P l (enc pre.length x) W1 fun e W' =>
      Below w0.heap.size w0 W' ∧ ((e = .returned (.bool true) ∧ J (pre ++ [nd x]) X W' ∧ KeepX X W1 W') ∨ (e = .returned (.bool false) ∧ Jx (pre ++ [nd x]) X W'))) →
    J [] (fun _ => False) W →
    CallsIn F n P g (#[.func (.yield l) #[] #[]] ++ lb) W fun e W' => (∃ v, e = .returned v) ∧ ((∃ X, J xs X W') ∨ (∃ pre X, Jx pre X W'))

/-- how the body of a round may be left -/
def postX (w0 : World) (X : Nat → Prop) (I : List β → (Nat → Prop) → World → Prop) (Ix : Code → List β → (Nat → Prop) → World → Prop) (xs : List β) (W : World) : Exit → Act → World → Prop
  | .normal, _, W' => KeepX X W W' ∧ Below w0.heap.size w0 W' ∧ I xs X W'
  | .ret, _, W' => KeepX X W W' ∧ Below w0.heap.size w0 W' ∧ Ix .ret xs X W'
  | .exit id, _, W' => KeepX X W W' ∧ Below w0.heap.size w0 W' ∧ Ix (.exit id) xs X W'
  | .goto t, _, W' => KeepX X W W' ∧ Below w0.heap.size w0 W' ∧ Ix (.goto t) xs X W'
  | .panic _, _, _ => False
  | .outgrown, _, _ => False

variable {F : Fence} {n : Nat} {P : Program}

/-- the loop -/
theorem wpIn_rangeX {g : Operand} {ps : Array Tmp} {assign body : Code} {Q : Exit → Act → World → Prop} {a : Act} {w w0 : World}
    (hro : F.round = none) (h1 : 1 ≤ n) {gf : Nat} {lb : Array Value} (hg : a.eval g = .func (.func gf) #[] lb) (hFg : F.fn gf) (eg : ∀ args w, (callFunc gf args).run P w = .ok (.enter gf args) w)
    {enc : Nat → α → Array Value} {nd : α → β} {ok : α → Prop} {xs : List β} (hseq : ∀ W, Below w.heap.size w W → SeqX F (n - 1) P gf lb enc nd ok xs w0 W)
    (hb0 : Below w0.heap.size w0 w) (hps : ∀ i x, (enc i x).size = ps.size)
    (I : List β → (Nat → Prop) → World → Prop) (Ix : Code → List β → (Nat → Prop) → World → Prop) (hI : Ab I) (hIx : ∀ c, Ab (Ix c)) (h0 : I [] (fun k => w.heap.size ≤ k) w)
    (Ax : List β → α → (Nat → Prop) → Act → World → Prop)
    (hAx : ∀ pre x X a' W W', Ax pre x X a' W → Turn X W W' → (∀ k, X k → w0.heap.size ≤ k) → Ax pre x X a' W')
    (hassign : ∀ (l : Nat) (pre : List β) (x : α) (post : List β) (X : Nat → Prop) (W : World), xs = pre ++ nd x :: post → ok x → (∀ k, X k → w0.heap.size ≤ k ∧ k < W.heap.size) → Below w0.heap.size w0 W → I pre X W →
      assign.wpIn (F.inRound l) (n - 1 - 1) P (Exit.then (fun a' W' => KeepX X W W' ∧ Ax pre x X a' W') (fun _ _ _ => False)) { tmps := (ps.zip (enc pre.length x)).foldl (fun t (p, v) => t.setIfInBounds p v) a.tmps, defers := [] } W)
    (hbody : ∀ (l : Nat) (pre : List β) (x : α) (post : List β) (X : Nat → Prop) (a' : Act) (W : World), xs = pre ++ nd x :: post → ok x → (∀ k, X k → w0.heap.size ≤ k ∧ k < W.heap.size) → Ax pre x X a' W →
      body.wpIn (F.inRound l) (n - 1 - 1) P (postX w0 X I Ix (pre ++ [nd x]) W) a' W)
    (hdone : ∀ (D : Nat) (X : Nat → Prop) (W : World), w0.heap.size ≤ D → X D → Below w0.heap.size w0 W → I xs X W → W.heap[D]? = some (.deferred (some [])) → Q .normal { a with defers := { target := .collected D, args := #[] } :: a.defers } W)
    (hstop : ∀ (D : Nat) (c : Code) (pre : List β) (X : Nat → Prop) (W : World), w0.heap.size ≤ D → X D → Below w0.heap.size w0 W → Ix c pre X W → W.heap[D]? = some (.deferred (some [])) → c.wpIn F n P Q { a with defers := { target := .collected D, args := #[] } :: a.defers } W) :
    (Code.rangeFunc g ps assign body).wpIn F n P Q a w := by
  refine wpIn_rangeFunc ?_
  intro fn hfn
  rw [hro]
  have hn0 := hb0.size
  obtain ⟨D, hD⟩ : ∃ D, D = w.heap.size := ⟨_, rfl⟩
  obtain ⟨rec, hrec⟩ : ∃ rec : LoopState → Option Code → Loop, rec = fun st pe => { state := st, pending := pe, fn, tmps := a.tmps, params := ps, assign, body, defers := D } := ⟨_, rfl⟩
  obtain ⟨W1, hW1⟩ : ∃ W1, (w.alloc (.deferred (some []))).alloc (.loop (rec .ready none)) = W1 := ⟨_, rfl⟩
  have hL1 : W1.heap[D + 1]? = some (.loop (rec .ready none)) := by
    rw [← hW1, hD]; have := World.alloc_heap_new (w.alloc (.deferred (some []))) (.loop (rec .ready none)); rwa [World.size_alloc] at this
  have hK1 : W1.heap[D]? = some (.deferred (some [])) := by
    rw [← hW1, hD]; exact (Below.heap_alloc _ _ _ (by simp)).trans (World.alloc_heap_new w _)
  have hbw : Below w.heap.size w W1 := by rw [← hW1]; exact ((Below.refl _ w).alloc (Nat.le_refl _) _).alloc (by simp) _
  have hb1 : Below w0.heap.size w0 W1 := hb0.trans (hbw.mono hn0)
  have hDn : w0.heap.size ≤ D := by omega
  obtain ⟨pl, hpl⟩ : ∃ pl : (Nat → Prop) → Nat → Prop, pl = fun X k => X k ∨ k = D ∨ k = D + 1 := ⟨_, rfl⟩
  have plD : ∀ X, pl X D := fun X => by rw [hpl]; exact .inr (.inl rfl)
  have plE : ∀ X, pl X (D + 1) := fun X => by rw [hpl]; exact .inr (.inr rfl)
  have plX : ∀ X k, X k → pl X k := fun X k h => by rw [hpl]; exact .inl h
  have plc : ∀ X k, pl X k → X k ∨ k = D ∨ k = D + 1 := fun X k h => by rw [hpl] at h; exact h
  have hI1 : I [] (pl fun _ => False) W1 := hI _ _ _ _ _ h0 (.of_below hbw) (fun k hk => by rcases plc _ _ hk with h | h | h; exact h.elim; exact .inr (by omega); exact .inr (by omega))
  refine ⟨D + 1, [{ target := .collected D, args := #[] }], W1, { target := .fn (.func gf) lb, args := #[.func (.yield (D + 1)) #[] #[]] }, W1, gf,
    #[.func (.yield (D + 1)) #[] #[]] ++ lb, W1, ?_, ?_, ?_, ?_, fun _ => h1, ?_⟩
  · rw [← hW1, hrec, hD]; exact run_enterLoop_outer _ _ _ _ _
  · simp only [resolve, hg]
    simp [go_sem]
  · intro f' hf'; simp [Target.leads] at hf'; subst hf'; exact hFg
  · simp [invoke, go_sem, eg]
  · have base : ∀ X Y (W W' : World), ¬ X D ∧ ¬ X (D + 1) ∧ (∀ k, X k → w0.heap.size ≤ k) → (∃ o, W.heap[D + 1]? = some o) → Below w0.heap.size w0 W → Turn X W W' → (∀ k, Y k → X k ∨ W.heap.size ≤ k) →
        (¬ Y D ∧ ¬ Y (D + 1) ∧ ∀ k, Y k → w0.heap.size ≤ k) ∧ Below w0.heap.size w0 W' ∧ W'.heap[D + 1]? = W.heap[D + 1]? ∧ W'.heap[D]? = W.heap[D]? ∧ Turn (pl X) W W' ∧ ∀ k, pl Y k → pl X k ∨ W.heap.size ≤ k := by
      rintro X Y W W' ⟨x1, x2, x3⟩ ⟨o, ho⟩ hb ht hy
      have hlt : D + 1 < W.heap.size := (Array.getElem?_eq_some_iff.1 ho).1
      have hs := hb.size
      refine ⟨⟨fun h => ?_, fun h => ?_, fun k h => ?_⟩, ht.below hb hs x3, ht.block _ hlt x2, ht.block _ (by omega) x1, ht.mono (plX X), fun k hk => ?_⟩
      · rcases hy _ h with h | h; exact x1 h; omega
      · rcases hy _ h with h | h; exact x2 h; omega
      · rcases hy _ h with h | h; exact x3 k h; omega
      · rcases plc _ _ hk with h | h | h
        · rcases hy _ h with h | h; exact .inl (plX _ _ h); exact .inr h
        · exact .inl (h ▸ plD X)
        · exact .inl (h ▸ plE X)
    refine (hseq W1 hbw (D + 1)
      (fun pre X W => I pre (pl X) W ∧ (¬ X D ∧ ¬ X (D + 1) ∧ ∀ k, X k → w0.heap.size ≤ k) ∧ Below w0.heap.size w0 W ∧ W.heap[D + 1]? = some (.loop (rec .ready none)) ∧ W.heap[D]? = some (.deferred (some [])))
      (fun pre X W => ∃ c, Ix c pre (pl X) W ∧ (¬ X D ∧ ¬ X (D + 1) ∧ ∀ k, X k → w0.heap.size ≤ k) ∧ Below w0.heap.size w0 W ∧ W.heap[D + 1]? = some (.loop (rec .done (some c))) ∧ W.heap[D]? = some (.deferred (some [])))
      ?_ ?_ ?_ ⟨hI1, ⟨fun h => h, fun h => h, fun _ h => h.elim⟩, hb1, hL1, hK1⟩).mono ?_
    · rintro s X Y W W' ⟨hi, hx, hb, hl, hk⟩ ht hy
      obtain ⟨c1, c2, c3, c4, c5, c6⟩ := base X Y W W' hx ⟨_, hl⟩ hb ht hy
      exact ⟨hI _ _ _ _ _ hi c5 c6, c1, c2, c3.trans hl, c4.trans hk⟩
    · rintro s X Y W W' ⟨c, hi, hx, hb, hl, hk⟩ ht hy
      obtain ⟨c1, c2, c3, c4, c5, c6⟩ := base X Y W W' hx ⟨_, hl⟩ hb ht hy
      exact ⟨c, hIx c _ _ _ _ _ hi c5 c6, c1, c2, c3.trans hl, c4.trans hk⟩
    · rintro pre x post X W hxs hok hXb hbW ⟨hi, hx, _, hl, hk⟩
      have hlt : D + 1 < W.heap.size := (Array.getElem?_eq_some_iff.1 hl).1
      have hy := run_yield (P := P) (args := enc pre.length x) hl (by rw [hrec]; exact hps _ x)
      rw [hrec] at hy
      have hXp : ∀ k, pl X k → w0.heap.size ≤ k ∧ k < W.heap.size := fun k h => by
        rcases plc _ _ h with h | h | h
        · exact hXb k h
        · omega
        · omega
      refine ⟨fn, _, assign, body, hy, roundIn_of_wpIn hfn (wpIn_mono (hassign _ pre x post (pl X) W hxs hok hXp hbW hi) ?_)⟩
      clear hy
      intro e a' Wa hp
      cases e with
      | normal =>
        obtain ⟨hka, hax⟩ := hp
        have hla := (hka.same _ (plE X)).trans hl
        have hkka := (hka.same _ (plD X)).trans hk
        refine ⟨_, run_beginRound hla (by rw [hrec]), ?_⟩
        have hlta : D + 1 < Wa.heap.size := (Array.getElem?_eq_some_iff.1 hla).1
        have hl2 : (Wa.putObj (D + 1) (.loop { rec .ready none with state := .busy })).heap[D + 1]? = some (.loop { rec .ready none with state := .busy }) := World.putObj_heap_same hlta
        have hk2 : (Wa.putObj (D + 1) (.loop { rec .ready none with state := .busy })).heap[D]? = some (.deferred (some [])) := (World.putObj_heap_other (by omega)).trans hkka
        have hka2 : KeepX X W (Wa.putObj (D + 1) (.loop { rec .ready none with state := .busy })) := (hka.mono (plX X)).trans (.putObj hx.2.1 _)
        refine wpIn_mono (hbody _ pre x post (pl X) a' _ hxs hok (fun k h => ⟨(hXp k h).1, by have := hka2.size; exact Nat.lt_of_lt_of_le (hXp k h).2 this⟩) (hAx _ _ _ _ _ _ hax ((Turn.refl _ _).putObj (plE X) _) (fun k h => (hXp k h).1))) ?_
        have fin : ∀ (jump : Option Code) (W3 : World), KeepX (pl X) (Wa.putObj (D + 1) (.loop { rec .ready none with state := .busy })) W3 → Below w0.heap.size w0 W3 →
            (Instr.endRound (D + 1) jump).run P W3 = .ok (.bool jump.isNone) (W3.putObj (D + 1) (.loop (rec (if jump.isNone then .ready else .done) jump))) ∧
            (W3.putObj (D + 1) (.loop (rec (if jump.isNone then .ready else .done) jump))).heap[D + 1]? = some (.loop (rec (if jump.isNone then .ready else .done) jump)) ∧
            (W3.putObj (D + 1) (.loop (rec (if jump.isNone then .ready else .done) jump))).heap[D]? = some (.deferred (some [])) ∧
            Turn (pl X) W3 (W3.putObj (D + 1) (.loop (rec (if jump.isNone then .ready else .done) jump))) ∧ Below w0.heap.size w0 (W3.putObj (D + 1) (.loop (rec (if jump.isNone then .ready else .done) jump))) ∧
            KeepX X W (W3.putObj (D + 1) (.loop (rec (if jump.isNone then .ready else .done) jump))) := fun jump W3 hk3 hb3 => by
          have hl3 := (hk3.same _ (plE X)).trans hl2
          have := run_endRound (P := P) jump hl3
          have ht : Turn (pl X) W3 (W3.putObj (D + 1) (.loop (rec (if jump.isNone then .ready else .done) jump))) := (Turn.refl _ _).putObj (plE X) _
          refine ⟨by rw [hrec] at this ⊢; exact this, World.putObj_heap_same (Array.getElem?_eq_some_iff.1 hl3).1, (World.putObj_heap_other (by omega)).trans ((hk3.same _ (plD X)).trans hk2), ht, ht.below hb3 hb3.size (fun k h => (hXp k h).1), (hka2.trans (hk3.mono (plX X))).trans (.putObj hx.2.1 _)⟩
        rintro e a3 W3 hp
        cases e with
        | normal =>
          obtain ⟨hk3, hb3, hi3⟩ := hp
          obtain ⟨hr, hl4, hk4, ht4, hb4, hkk⟩ := fin none W3 hk3 hb3
          exact ⟨_, _, hr, hb4, .inl ⟨rfl, ⟨hI _ _ _ _ _ hi3 ht4 (fun k h => .inl h), hx, hb4, hl4, hk4⟩, hkk⟩⟩
        | ret =>
          obtain ⟨hk3, hb3, hi3⟩ := hp
          obtain ⟨hr, hl4, hk4, ht4, hb4, hkk⟩ := fin (some .ret) W3 hk3 hb3
          exact ⟨_, _, hr, hb4, .inr ⟨rfl, .ret, hIx _ _ _ _ _ _ hi3 ht4 (fun k h => .inl h), hx, hb4, hl4, hk4⟩⟩
        | exit id =>
          obtain ⟨hk3, hb3, hi3⟩ := hp
          obtain ⟨hr, hl4, hk4, ht4, hb4, hkk⟩ := fin (some (.exit id)) W3 hk3 hb3
          exact ⟨_, _, hr, hb4, .inr ⟨rfl, .exit id, hIx _ _ _ _ _ _ hi3 ht4 (fun k h => .inl h), hx, hb4, hl4, hk4⟩⟩
        | goto t =>
          obtain ⟨hk3, hb3, hi3⟩ := hp
          obtain ⟨hr, hl4, hk4, ht4, hb4, hkk⟩ := fin (some (.goto t)) W3 hk3 hb3
          exact ⟨_, _, hr, hb4, .inr ⟨rfl, .goto t, hIx _ _ _ _ _ _ hi3 ht4 (fun k h => .inl h), hx, hb4, hl4, hk4⟩⟩
        | panic ch => exact hp.elim
        | outgrown => exact hp.elim
      | ret => exact hp.elim
      | exit id => exact hp.elim
      | goto t => exact hp.elim
      | panic ch => exact hp.elim
      | outgrown => exact hp.elim
    · rintro e W2 ⟨⟨v, rfl⟩, (⟨X, hi, hx, hb, hl, hk⟩ | ⟨pre, X, c, hi, hx, hb, hl, hk⟩)⟩
      · have ht : Turn (pl X) W2 (W2.putObj (D + 1) (.loop { rec .ready none with state := .exhausted })) := (Turn.refl _ _).putObj (plE X) _
        exact ⟨none, _, by have := run_endLoop (P := P) hl (by rw [hrec]; simp); rw [hrec] at this ⊢; exact this, hdone _ (pl X) _ hDn (plD X) (ht.below hb hb.size (fun k h => by rcases plc _ _ h with h | h | h; exact hx.2.2 k h; omega; omega)) (hI _ _ _ _ _ hi ht (fun k h => .inl h)) ((World.putObj_heap_other (by omega)).trans hk)⟩
      · have ht : Turn (pl X) W2 (W2.putObj (D + 1) (.loop { rec .done (some c) with state := .exhausted })) := (Turn.refl _ _).putObj (plE X) _
        exact ⟨some c, _, by have := run_endLoop (P := P) hl (by rw [hrec]; simp); rw [hrec] at this ⊢; exact this, hstop _ c pre (pl X) _ hDn (plD X) (ht.below hb hb.size (fun k h => by rcases plc _ _ h with h | h | h; exact hx.2.2 k h; omega; omega)) (hIx c _ _ _ _ _ hi ht (fun k h => .inl h)) ((World.putObj_heap_other (by omega)).trans hk)⟩
end
end Go.Proofs.Ytcjmjdgcehmigaa
