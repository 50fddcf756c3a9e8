/-
  The walks of the document's reader's stmt and block (proteanref02), whatever tokens there are. Conditions: the state's; how many tokens there are.
-/
import Derived.Test.YtkonkdhoakcmdaaGreatDoorT15
set_option linter.unusedVariables false
set_option linter.unusedSimpArgs false
namespace Go.Proofs.YtkonkdhoakcmdaaGreatDoor
open Go.RowKit

theorem isR_two {r : RSt} {s t : ByteArray} (h : isR r s = true) (ht : ¬ s = t) : isR r t = false := by
  obtain ⟨S, rfl⟩ := isR_ok h
  exact at_two h ht
theorem isR_name {r : RSt} {s : ByteArray} (h : isR r s = true) (hk : M.kw s = true) : isNameR r = false := by
  obtain ⟨S, rfl⟩ := isR_ok h
  cases e : isNameR (.ok S)
  · rfl
  · have := name_not (S := S) e hk
    rw [show S.at s = true from h] at this; cases this
theorem name_isR {r : RSt} {s : ByteArray} (h : isNameR r = true) (hk : M.kw s = true) : isR r s = false := by
  obtain ⟨S, rfl⟩ := isNameR_ok h
  exact name_not (S := S) h hk
theorem rstmt_any (N : Nat) (a : Option Addr) (cap : Nat) (ts : List M.Tok) (fin : Int) (d : Nat) (r : RSt) (i n : Nat) (c y : Int) (w : World) (h : RS ts fin d r i n c y) (hT : TokAt w (.slice a ts.length cap) ts) (hfew : ts.length ≤ 4398046511000) (hB : RBlockC N) (hd : d ≤ 32) (hN : ∀ S, r = .ok S → S.rest.length ≤ N) :
    Calls Tryz.prog 34 #[.agg #[.slice a ts.length cap, .int .i64 (i : Nat), .int .i64 fin, .int .i64 (n : Nat), .int .i64 c, .int .i64 y], .int .i64 (d : Nat)] w fun e w' => Below w.heap.size w w' ∧ ∃ (i' n' : Nat) (c' y' : Int) (v : Value) (t : M.Tr), e = .returned (.tuple #[.agg #[.slice a ts.length cap, .int .i64 (i' : Nat), .int .i64 fin, .int .i64 (n' : Nat), .int .i64 c', .int .i64 y'], v]) ∧ RS ts fin d (stR (stmtR N r)) i' n' c' y' ∧ stmEnc w t v w' ∧ ∀ S' t', stmtR N r = .ok (S', t') → t = t' := by
  cases kO : isR r M.kOut
  · cases kR : isR r M.kReturn
    · cases kI : isR r M.kIf
      · cases kW : isR r M.kWhile
        · cases kN : isNameR r
          · exact rstmt_none _ _ _ _ _ _ _ _ _ _ _ _ h hT hfew kN kO kR kI kW
          · exact rstmt_name _ _ _ _ _ _ _ _ _ _ _ _ h hT hfew kN kO kR kI kW
        · exact rstmt_while _ _ _ _ _ _ _ _ _ _ _ _ h hT hfew hB hd hN (isR_name kW (by decide)) kO kR kI kW
      · exact rstmt_if _ _ _ _ _ _ _ _ _ _ _ _ h hT hfew hB hd hN (isR_name kI (by decide)) kO kR kI (isR_two kI (by decide))
    · exact rstmt_return _ _ _ _ _ _ _ _ _ _ _ _ h hT hfew (isR_name kR (by decide)) kO kR (isR_two kR (by decide)) (isR_two kR (by decide))
  · exact rstmt_out _ _ _ _ _ _ _ _ _ _ _ _ h hT hfew (isR_name kO (by decide)) kO (isR_two kO (by decide)) (isR_two kO (by decide)) (isR_two kO (by decide))

/-- the blocks that were there, and the row itself -/
def AvoidB (n : Nat) (v : Value) : Nat → Prop := fun b => b < n ∨ v.ownBlock = some b
theorem row_stepB {base g n cap : Nat} {wr w3 W w5 : World} {v : Value} {acc : M.Tr} {cs : List Value} {op : Int} {x y p : ByteArray} {a : List M.Opd} {pr : List ByteArray} {th el : M.Tr} {va vp vt ve : Value}
    (hz0 : base ≤ wr.heap.size) (own : wr.ownsRow base 59 8 v acc.len cs) (row : RowAt wr (AvoidB base v) cs acc) (o3 : Below wr.heap.size wr w3)
    (hA : OpsAt w3 (Old wr) va a) (hP : StrsAt w3 (Old wr) vp pr) (hT : StmAt w3 (Old wr) vt th) (hE : StmAt w3 (Old wr) ve el)
    (hW : Below w3.heap.size w3 W) (hgrow : W.grownBy w5 v.ownBlock) (hat : v.ownBlock = some g ∨ g = W.heap.size) :
    RowAt w5 (AvoidB base (.slice (some ⟨g, 0, none⟩) n cap)) (cs ++ [.int .i64 op, .string x, .string y, .string p, va, vp, vt, ve]) (acc.app (M.one op x y p a pr th el)) := by
  have hob : ∀ k, v.ownBlock = some k → base ≤ k ∧ k < wr.heap.size := fun k hk => own.lt k hk
  have hz3 := o3.size
  have row3 : RowAt W (AvoidB base v) cs acc := RowAt.keep (Below.keepX hW) (RowAt.keep (Below.keepX o3) row)
  have new3 : RowAt W (Old wr) [.int .i64 op, .string x, .string y, .string p, va, vp, vt, ve] (M.one op x y p a pr th el) :=
    RowAt.keep (Below.keepX hW) (RowAt.one hA hP hT hE)
  have hweak : ∀ b, b < W.heap.size → (¬ AvoidB base v b ∨ ¬ Old wr b) → ¬ (b < base ∨ v.ownBlock = some b ∨ b = g) := by
    intro b hb hx hy
    have h1 : ¬ (b < base ∨ v.ownBlock = some b) := by
      intro h2
      rcases hx with hx | hx
      · exact hx h2
      · apply hx
        rcases h2 with h2 | h2
        · exact Nat.lt_of_lt_of_le h2 hz0
        · exact (hob b h2).2
    rcases hy with hy | hy | rfl
    · exact h1 (.inl hy)
    · exact h1 (.inr hy)
    · rcases hat with hat | hat
      · exact h1 (.inr hat)
      · omega
  have hx := RowAt.app (RowAt.weak (Y := fun b => b < base ∨ v.ownBlock = some b ∨ b = g) (fun b hb hx => hweak b hb (.inl hx)) row3) (RowAt.weak (fun b hb hx => hweak b hb (.inr hx)) new3)
  refine RowAt.weak ?_ (RowAt.keep (keep_grown hgrow fun k hk => .inr (.inl hk)) hx)
  intro b _ hx hy
  apply hx
  rcases hy with hy | hy
  · exact .inl hy
  · simp only [Value.ownBlock, Option.some.injEq] at hy
    exact .inr (.inr hy.symm)

theorem stmts_fuel {N : Nat} : ∀ (m : Nat) (S : M.St) (acc : M.Tr) (k : Nat), S.rest.length ≤ m → S.rest.length < k → M.stmts (M.stmt (M.blk N)) k S acc = M.stmts (M.stmt (M.blk N)) (S.rest.length + 1) S acc
  | m, S, acc, k, hm, hk => by
    cases k with
    | zero => omega
    | succ k =>
      simp only [M.stmts]
      cases hc : S.at (M.ch 125)
      · simp only [Bool.false_eq_true, if_false]
        cases hst : M.stmt (M.blk N) S with
        | error f => rfl
        | ok p =>
          obtain ⟨S1, t⟩ := p
          have hl := (M.stmtN_lt hst).rest
          cases m with
          | zero => omega
          | succ m =>
            show M.stmts (M.stmt (M.blk N)) k S1 (acc.app t) = M.stmts (M.stmt (M.blk N)) S.rest.length S1 (acc.app t)
            rw [stmts_fuel m S1 _ k (by omega) (by omega), stmts_fuel m S1 _ S.rest.length (by omega) (by omega)]
      · rfl
/-- a block goes down -/
def rdn (r : RSt) : RSt := match r with | .ok S => .ok S.down | .error e => .error e
theorem rdn_ok {r : RSt} {S : M.St} (h : rdn r = .ok S) : ∃ S1, r = .ok S1 ∧ S.rest = S1.rest := by
  cases r with
  | error f => cases h
  | ok S1 => cases h; exact ⟨S1, rfl, rfl⟩
theorem RS.down {ts : List M.Tok} {fin : Int} {d : Nat} {r : RSt} {i n : Nat} {c y : Int} (h : RS ts fin d r i n c y) : RS ts fin (d + 1) (rdn r) i n c y := by
  cases r with
  | error f => exact ⟨h.lt, h.lim, fun S e => (by cases e), fun f e => h.bad f e⟩
  | ok S =>
    obtain ⟨e1, e2, e3⟩ := h.good S rfl
    exact ⟨h.lt, h.lim, fun S' e => ⟨e1, e2, by cases e; subst e3; rfl⟩, fun f e => by cases e⟩
/-- what is left of a block -/
def blkNext (N : Nat) (r : RSt) (acc : M.Tr) : M.Res M.Tr := M.bnd (bindR r fun S => M.stmts (M.stmt (M.blk N)) (S.rest.length + 1) S acc) fun S2 t => .ok (S2.up, t)
theorem blk_begin {N : Nat} {r : RSt} (h : ∀ S, r = .ok S → ¬ (S.at (M.ch 123) = true ∧ S.d = 32)) : blockR (N + 1) r = blkNext N (rdn (needR r (M.ch 123))) .nil := by
  cases r with
  | error f => rfl
  | ok S =>
    have h1 := h S rfl
    show M.block (M.stmt (M.blk N)) S = _
    unfold M.block blkNext
    rw [if_neg h1]
    simp only [needR, bindR]
    cases M.take S (M.ch 123) with
    | error f => rfl
    | ok p => rfl
theorem blk_deep {N : Nat} {S : M.St} (h : S.at (M.ch 123) = true) (hd : S.d = 32) : stR (blockR (N + 1) (.ok S)) = failR (.ok S) 21 ∧ ∀ S' t, ¬ blockR (N + 1) (.ok S) = .ok (S', t) := by
  have : blockR (N + 1) (.ok S) = M.fail S 21 := by
    show M.block (M.stmt (M.blk N)) S = _
    unfold M.block
    rw [if_pos ⟨h, hd⟩]
  rw [this]
  exact ⟨rfl, fun _ _ h => by cases h⟩
theorem blk_step {N : Nat} {S : M.St} {acc t : M.Tr} (h : S.at (M.ch 125) = false) (ht : ∀ S' x, stmtR N (.ok S) = .ok (S', x) → t = x) : blkNext N (.ok S) acc = blkNext N (stR (stmtR N (.ok S))) (acc.app t) := by
  have e : stmtR N (.ok S) = M.stmt (M.blk N) S := rfl
  rw [e] at ht ⊢
  unfold blkNext
  show M.bnd (M.stmts (M.stmt (M.blk N)) (S.rest.length + 1) S acc) _ = _
  simp only [M.stmts, h, Bool.false_eq_true, if_false]
  cases hst : M.stmt (M.blk N) S with
  | error f => rfl
  | ok p =>
    obtain ⟨S1, x⟩ := p
    obtain rfl := ht _ _ hst
    have hl := (M.stmtN_lt hst).rest
    show M.bnd (M.stmts (M.stmt (M.blk N)) S.rest.length S1 (acc.app t)) _ = M.bnd (M.stmts (M.stmt (M.blk N)) (S1.rest.length + 1) S1 (acc.app t)) _
    rw [stmts_fuel S1.rest.length S1 _ S.rest.length (Nat.le_refl _) hl]
theorem blk_out {N : Nat} {r : RSt} {acc : M.Tr} (h : okR r = false ∨ isR r (M.ch 125) = true) : blkNext N r acc = bindR (needR r (M.ch 125)) fun S2 => .ok (S2.up, acc) := by
  rcases h with h | h
  · obtain ⟨f, rfl⟩ := okR_no h; rfl
  · obtain ⟨S, rfl⟩ := isR_ok h
    rw [needR_yes h]
    have h' : S.at (M.ch 125) = true := h
    unfold blkNext
    show M.bnd (M.stmts (M.stmt (M.blk N)) (S.rest.length + 1) S acc) _ = _
    simp only [M.stmts, h', if_true]; rfl
theorem RS.up {ts : List M.Tok} {fin : Int} {d : Nat} {q : RSt} {i n : Nat} {c y : Int} {acc : M.Tr} (h : RS ts fin (d + 1) q i n c y) : RS ts fin d (stR (bindR q fun S2 => .ok (S2.up, acc))) i n c y := by
  cases q with
  | error f => exact ⟨h.lt, h.lim, fun S e => (by cases e), fun f e => h.bad f e⟩
  | ok S =>
    obtain ⟨e1, e2, e3⟩ := h.good S rfl
    exact ⟨h.lt, h.lim, fun S' e => ⟨e1, e2, by cases e; subst e3; rfl⟩, fun f e => by cases e⟩
theorem up_val {q : RSt} {acc : M.Tr} : ∀ S' t, (bindR q fun S2 => .ok (S2.up, acc)) = .ok (S', t) → acc = t := by
  intro S' t h
  cases q with
  | error f => cases h
  | ok S => cases h; rfl
theorem st_lt {N : Nat} {S S1 : M.St} (h : stR (stmtR N (.ok S)) = .ok S1) : S1.rest.length < S.rest.length ∧ S.n + 1 ≤ S1.n := by
  have e : stmtR N (.ok S) = M.stmt (M.blk N) S := rfl
  rw [e] at h
  cases hst : M.stmt (M.blk N) S with
  | error f => rw [hst] at h; cases h
  | ok p => rw [hst] at h; cases h; exact ⟨(M.stmtN_lt hst).rest, (M.stmtN_lt hst).n⟩
theorem app_len : ∀ (t u : M.Tr), (t.app u).len = t.len + u.len
  | .nil, u => by simp [M.Tr.app, M.Tr.len]
  | .cons _ _ _ _ _ _ _ _ nx, u => by simp only [M.Tr.app, M.Tr.len, app_len nx u]; omega
theorem app_one (t : M.Tr) (op : Int) (x y p : ByteArray) (a : List M.Opd) (pr : List ByteArray) (th el : M.Tr) : (t.app (M.one op x y p a pr th el)).len = t.len + 1 := by rw [app_len]; rfl

/-- what block has in its hands in a round -/
structure BkIn (G : Prop) (a : Option Addr) (cap : Nat) (ts : List M.Tok) (fin : Int) (d N : Nat) (w wr : World) (k : Nat) (v : Value) (r : RSt) (i n : Nat) (c y : Int) (acc : M.Tr) (cs : List Value) : Prop where
  rs : RS ts fin (d + 1) r i n c y
  box : wr.heap[w.heap.size]? = some (.cells #[.slice a ts.length cap, .int .i64 (i : Nat), .int .i64 fin, .int .i64 (n : Nat), .int .i64 c, .int .i64 y] 44 (0, 0))
  res : wr.heap[w.heap.size + 1]? = some (.cells #[.slice none 0 0, .int .i64 0, .int .i64 0, .int .i64 0, .int .i64 0, .int .i64 0] 44 (0, 0))
  own : wr.ownsRow (w.heap.size + 2) 59 8 v acc.len cs
  row : RowAt wr (AvoidB (w.heap.size + 2) v) cs acc
  bel : Below w.heap.size w wr
  lt : mz r ≤ k
  len : acc.len ≤ 2001
  len' : okR r = true → acc.len ≤ n
  le : ∀ S, r = .ok S → S.rest.length ≤ N
  dd : okR r = true → d < 32 ∧ G

set_option maxRecDepth 16000 in
set_option maxHeartbeats 3200000 in
theorem rblock_deep (N : Nat) (a : Option Addr) (cap : Nat) (ts : List M.Tok) (fin : Int) (d : Nat) (S : M.St) (i n : Nat) (c y : Int) (w : World) (h : RS ts fin d (.ok S) i n c y) (hT : TokAt w (.slice a ts.length cap) ts) (hd : d = 32) (h1 : isR (.ok S) (M.ch 123) = true) :
    Calls Tryz.prog 22 #[.agg #[.slice a ts.length cap, .int .i64 (i : Nat), .int .i64 fin, .int .i64 (n : Nat), .int .i64 c, .int .i64 y], .int .i64 (d : Nat)] w fun e w' => Below w.heap.size w w' ∧ ∃ (i' n' : Nat) (c' y' : Int) (v : Value) (t : M.Tr), e = .returned (.tuple #[.agg #[.slice a ts.length cap, .int .i64 (i' : Nat), .int .i64 fin, .int .i64 (n' : Nat), .int .i64 c', .int .i64 y'], v]) ∧ RS ts fin d (stR (blockR (N + 1) (.ok S))) i' n' c' y' ∧ StmAt w' (Old w) v t ∧ ∀ S' t', blockR (N + 1) (.ok S) = .ok (S', t') → t = t' := by
  have HF := hid (blk_deep (N := N) (show S.at (M.ch 123) = true from h1) (h.idx.2.1.trans hd))
  have hdi : (32 : Int) ≤ (d : Int) := by omega
  clear hd
  have hbw0 := Below.refl w.heap.size w
  go_enter Tryz.func22, Tryz.ntmps22
  go_wp2_with fail
  refine (ris_any _ _ _ _ _ _ _ _ _ _ _ h (hT.keep (below_three _ _ _)) (M.ch 123) (by decide) (by decide)).mono ?_
  rintro e w1 ⟨rfl, hb⟩
  obtain ⟨hP1, hQ1, hE1, hbn⟩ := three_newp hb
  clear hb
  have hbw1 := hbw0.trans (hbn.mono hbw0.size)
  clear hbn 
  obtain ⟨x0, x1, x2, x3, x4, x5, xf⟩ := cells6 hP1
  rw [h1]
  go_wp2_with fail
  clear x0 x1 x2 x3 x4 x5 xf
  refine (rfail_any _ _ _ _ _ _ _ _ _ _ _ h (hT.keep hbw1) 21 (by decide)).mono ?_
  rintro e w2 ⟨hb, c2, y2, rfl, h2⟩
  have hQ2 := kept hb hQ1
  have hE2 := kept hb hE1
  have hbw2 := hbw1.trans (hb.mono hbw1.size)
  clear hb hQ1 hE1
  obtain ⟨q0, q1, q2, q3, q4, q5, qf⟩ := cells6 hQ2
  go_wp2_with fail
  refine bodyPost_ret (v := .tuple #[.agg #[.slice a ts.length cap, .int .i64 (i : Nat), .int .i64 fin, .int .i64 (n : Nat), .int .i64 c2, .int .i64 y2], .slice (some ⟨w.heap.size + 1 + 1, 0, none⟩) 0 0]) (by simp [results, Tryz.results22, go_sem, q0, q1, q2, q3, q4, q5]) rfl ⟨?_, i, n, c2, y2, _, .nil, rfl, by rw [HF.out.1]; exact h2, ⟨[], ⟨Nat.zero_le _, _, _, rfl, .inl ⟨rfl, rfl⟩⟩, rfl⟩, fun S' x e => absurd e (HF.out.2 _ _)⟩
  exact bset6 hbw2 (by omega) _ _ _ _ _ _

set_option maxRecDepth 16000 in
set_option maxHeartbeats 6400000 in
theorem rblock_main (N : Nat) (a : Option Addr) (cap : Nat) (ts : List M.Tok) (fin : Int) (d : Nat) (r : RSt) (i n : Nat) (c y : Int) (w : World) (h : RS ts fin d r i n c y) (hT : TokAt w (.slice a ts.length cap) ts) (hfew : ts.length ≤ 4398046511000) (hd : d ≤ 32) (hN : ∀ S, r = .ok S → S.rest.length < N + 1) (h1 : ¬ (isR r (M.ch 123) = true ∧ d = 32)) (hB : (∃ S, r = .ok S) → RBlockC N) :
    Calls Tryz.prog 22 #[.agg #[.slice a ts.length cap, .int .i64 (i : Nat), .int .i64 fin, .int .i64 (n : Nat), .int .i64 c, .int .i64 y], .int .i64 (d : Nat)] w fun e w' => Below w.heap.size w w' ∧ ∃ (i' n' : Nat) (c' y' : Int) (v : Value) (t : M.Tr), e = .returned (.tuple #[.agg #[.slice a ts.length cap, .int .i64 (i' : Nat), .int .i64 fin, .int .i64 (n' : Nat), .int .i64 c', .int .i64 y'], v]) ∧ RS ts fin d (stR (blockR (N + 1) r)) i' n' c' y' ∧ StmAt w' (Old w) v t ∧ ∀ S' t', blockR (N + 1) r = .ok (S', t') → t = t' := by
  have hi := h.lt
  have hn2 := h.lim
  have hdi : (d : Int) ≤ 32 := by omega
  obtain ⟨i0, hi0, hz0, hz1, hz2⟩ := info_parts infoStm
  have HR := hid (blk_begin (N := N) (r := r) (fun S e hh => h1 ⟨by rw [e]; exact hh.1, by rw [e] at h; exact h.idx.2.1.symm.trans hh.2⟩))
  have hdn : ∀ S, needR r (M.ch 123) = .ok S → (d < 32 ∧ ∃ S, r = .ok S) ∧ S.rest.length ≤ N := fun S e => by
    cases r with
    | error f => cases e
    | ok S0 =>
      cases hc : isR (.ok S0) (M.ch 123)
      · rw [needR_no hc] at e; cases e
      · rw [needR_yes hc] at e
        cases e
        have hne := M.at_ne (show S0.at (M.ch 123) = true from hc) (by decide)
        have := M.adv_short hne
        have := hN S0 rfl
        exact ⟨⟨by have : ¬ d = 32 := fun e => h1 ⟨hc, e⟩
                   omega, _, rfl⟩, by omega⟩
  have own0 : (((w.alloc (.cells #[.slice a ts.length cap, .int .i64 (i : Nat), .int .i64 fin, .int .i64 (n : Nat), .int .i64 c, .int .i64 y] 44)).alloc (.cells #[.slice none 0 0, .int .i64 0, .int .i64 0, .int .i64 0, .int .i64 0, .int .i64 0] 44)).alloc (.cells #[] 59)).ownsRow (w.heap.size + 2) 59 8 (.slice (some ⟨w.heap.size + 1 + 1, 0, none⟩) 0 0) 0 [] := by
    have := World.ownsRow_made (base := (w.heap.size + 2)) (e := 59) (size := 8) ((w.alloc (.cells #[.slice a ts.length cap, .int .i64 (i : Nat), .int .i64 fin, .int .i64 (n : Nat), .int .i64 c, .int .i64 y] 44)).alloc (.cells #[.slice none 0 0, .int .i64 0, .int .i64 0, .int .i64 0, .int .i64 0, .int .i64 0] 44)) #[] 0 (by simp) (by unfold maxLen; omega) rfl
    simp only [World.size_alloc] at this
    exact this
  have hbw0 := Below.refl w.heap.size w
  go_enter Tryz.func22, Tryz.ntmps22
  go_wp2_with fail
  refine (ris_any _ _ _ _ _ _ _ _ _ _ _ h (hT.keep (below_three _ _ _)) (M.ch 123) (by decide) (by decide)).mono ?_
  rintro e w1 ⟨rfl, hb⟩
  obtain ⟨hP1, hQ1, _, hbw1⟩ := three_newp hb
  have own1 := ownsRow_below own0 hb
  clear own0 hb
  obtain ⟨x0, x1, x2, x3, x4, x5, xf⟩ := cells6 hP1
  have hcase : isR r (M.ch 123) = false ∨ (isR r (M.ch 123) = true ∧ (d : Int) < 32) := by
    cases hc : isR r (M.ch 123)
    · exact .inl rfl
    · refine .inr ⟨rfl, ?_⟩
      have : ¬ d = 32 := fun e => h1 ⟨hc, e⟩
      omega
  clear h1
  rcases hcase with hc | ⟨hc, hlt⟩
  all_goals
    rw [hc]
    go_wp2_with fail
    clear x0 x1 x2 x3 x4 x5 xf
    refine (rneed_any _ _ _ _ _ _ _ _ _ _ _ h (hT.keep hbw1) (M.ch 123) (by decide) (by decide)).mono ?_
    rintro e w2 ⟨hb, i2, c2, y2, rfl, h2⟩
    have hP2 := kept hb hP1
    have hQ2 := kept hb hQ1
    have own2 := ownsRow_below own1 hb
    have hbw2 := hbw1.trans (hb.mono hbw1.size)
    clear hb hP1 hQ1 own1
    obtain ⟨x0, x1, x2, x3, x4, x5, xf⟩ := cells6 hP2
    go_wp2_with fail
    clear x0 x1 x2 x3 x4 x5 xf
    have hP3 := set6 hP2 (.slice a ts.length cap) (.int .i64 (i2 : Nat)) (.int .i64 fin) (.int .i64 (n : Nat)) (.int .i64 c2) (.int .i64 y2)
    have hQ3 := kset6 hQ2 (show w.heap.size + 1 ≠ w.heap.size by omega) (.slice a ts.length cap) (.int .i64 (i2 : Nat)) (.int .i64 fin) (.int .i64 (n : Nat)) (.int .i64 c2) (.int .i64 y2)
    have hbw3 := bset6 hbw2 (Nat.le_refl w.heap.size) (.slice a ts.length cap) (.int .i64 (i2 : Nat)) (.int .i64 fin) (.int .i64 (n : Nat)) (.int .i64 c2) (.int .i64 y2)
    have own3 := oset6 own2 (show w.heap.size < (w.heap.size + 2) by omega) (.slice a ts.length cap) (.int .i64 (i2 : Nat)) (.int .i64 fin) (.int .i64 (n : Nat)) (.int .i64 c2) (.int .i64 y2)
    generalize hW : ((((((w2.setCell ⟨w.heap.size, 0, none⟩ (.slice a ts.length cap)).setCell ⟨w.heap.size, 1, none⟩ (.int .i64 (i2 : Nat))).setCell ⟨w.heap.size, 2, none⟩ (.int .i64 fin)).setCell ⟨w.heap.size, 3, none⟩ (.int .i64 (n : Nat))).setCell ⟨w.heap.size, 4, none⟩ (.int .i64 c2)).setCell ⟨w.heap.size, 5, none⟩ (.int .i64 y2)) = w3 at hP3 hQ3 hbw3 own3 ⊢
    clear hW hP2 hQ2 hbw2 own2
    have hdown := h2.down
    go_loopg [6] (mz (rdn (needR r (M.ch 123)))) (fun k v wr => ∃ rr ii nn cc yy acc cs, BkIn (RBlockC N) a cap ts fin d N w wr k v rr ii nn cc yy acc cs ∧ Hid (blockR (N + 1) r = blkNext N rr acc))
    case atStart => exact ⟨_, i2, n, c2, y2, .nil, [], ⟨hdown, hP3, hQ3, own3, rfl, hbw3, Nat.le_refl _, Nat.zero_le _, fun _ => Nat.zero_le _, fun S e => by obtain ⟨S1, e1, e2⟩ := rdn_ok e; rw [e2]; exact (hdn S1 e1).2, fun ok => by obtain ⟨S, e⟩ := okR_yes ok; obtain ⟨S1, e1, _⟩ := rdn_ok e; exact ⟨(hdn S1 e1).1.1, hB (hdn S1 e1).1.2⟩⟩, HR⟩
    case round =>
      obtain ⟨rr, ii, nn, cc, yy, acc, cs, ⟨rs, hP4, hQ4, own4, row4, hbw4, hlt4, hlen, hlen', hle, hdd⟩, HT⟩ := hrel
      clear hP3 hQ3 own3 hbw3 HR hdown h2 hdn
      have hil := rs.lt
      have hnl := rs.lim
      obtain ⟨av, cv, rfl⟩ := own_form own4
      obtain ⟨x0, x1, x2, x3, x4, x5, xf⟩ := cells6 hP4
      go_wp2_with fail
      clear x0 x1 x2 x3 x4 x5 xf
      refine (rok_any _ _ _ _ _ _ _ _ _ _ _ _ rs).mono ?_
      rintro e w5 ⟨rfl, hb⟩
      have hP5 := kept hb hP4
      have hQ5 := kept hb hQ4
      have own5 := ownsRow_below own4 hb
      have row5 := RowAt.keep (Below.keepX hb) row4
      have hbw5 := hbw4.trans (hb.mono hbw4.size)
      clear hb hP4 hQ4 own4 row4
      obtain ⟨x0, x1, x2, x3, x4, x5, xf⟩ := cells6 hP5
      have HQ : AvoidB (w.heap.size + 2) (.slice av acc.len cv) (w.heap.size + 1) := .inl (by omega)
      cases hok : okR rr
      · have HX := hid (HT.out.trans (blk_out (.inl hok)))
        go_wp2_with fail
        clear x0 x1 x2 x3 x4 x5 xf
        refine (rneed_any _ _ _ _ _ _ _ _ _ _ _ rs (hT.keep hbw5) (M.ch 125) (by decide) (by decide)).mono ?_
        rintro e w6 ⟨hb, ie, ce, ye, rfl, he⟩
        have hP6 := kept hb hP5
        have hQ6 := kept hb hQ5
        have own6 := ownsRow_below own5 hb
        have row6 := RowAt.keep (Below.keepX hb) row5
        have hbw6 := hbw5.trans (hb.mono hbw5.size)
        clear hb hP5 hQ5 own5 row5
        obtain ⟨q0, q1, q2, q3, q4, q5, qf⟩ := cells6 hQ6
        go_wp2_with fail
        refine bodyPost_ret (v := .tuple #[.agg #[.slice a ts.length cap, .int .i64 (ie : Nat), .int .i64 fin, .int .i64 (nn : Nat), .int .i64 ce, .int .i64 ye], .slice av acc.len cv]) (by simp [results, Tryz.results22, go_sem, q0, q1, q2, q3, q4, q5]) rfl ⟨?_, ie, nn, ce, ye, _, acc, rfl, by rw [HX.out]; exact he.up, ?_, fun S' x e => by rw [HX.out] at e; exact up_val _ _ e⟩
        · exact bset6 hbw6 (by omega) _ _ _ _ _ _
        · refine ⟨cs, SlAt.of_owns (oset6 own6 (by omega) _ _ _ _ _ _) (fun b hb hx => by have : b < w.heap.size := hx; omega) (by omega), ?_⟩
          refine RowAt.weak (X := AvoidB (w.heap.size + 2) (.slice av acc.len cv)) (fun b _ hx hy => hx (.inl (by have : b < w.heap.size := hy; omega))) (RowAt.keep ?_ row6)
          exact keep_setc (keep_setc (keep_setc (keep_setc (keep_setc (keep_setc keep_self HQ) HQ) HQ) HQ) HQ) HQ
      · go_wp2_with fail
        clear x0 x1 x2 x3 x4 x5 xf
        refine (ris_any _ _ _ _ _ _ _ _ _ _ _ rs (hT.keep hbw5) (M.ch 125) (by decide) (by decide)).mono ?_
        rintro e w6 ⟨rfl, hb⟩
        have hP6 := kept hb hP5
        have hQ6 := kept hb hQ5
        have own6 := ownsRow_below own5 hb
        have row6 := RowAt.keep (Below.keepX hb) row5
        have hbw6 := hbw5.trans (hb.mono hbw5.size)
        clear hb hP5 hQ5 own5 row5
        obtain ⟨x0, x1, x2, x3, x4, x5, xf⟩ := cells6 hP6
        cases hcl : isR rr (M.ch 125)
        · obtain ⟨S, rfl⟩ := okR_yes hok
          have hl1 := hlen' hok
          obtain ⟨hd1, hB1⟩ := hdd hok
          cases gk with
          | zero => simp [mz] at hlt4
          | succ k =>
            go_wp2_with fail
            clear x0 x1 x2 x3 x4 x5 xf
            rw [show ((d : Int) + 1) = ((d + 1 : Nat) : Int) by omega]
            have hz6 := hbw6.size
            have hq6 := hlt_ hQ6
            refine (rstmt_any _ _ _ _ _ _ _ _ _ _ _ _ rs (hT.keep hbw6) hfew hB1 (by omega) hle).mono ?_
            rintro e w7 ⟨hb, i7, n7, c7, y7, v7, t7, rfl, h7, ⟨op, x, y', p, l, pr, th, el, va, vp, vt, ve, rfl, rfl, hA, hPr, hTh, hEl⟩, ht7⟩
            obtain ⟨aa, ca, rfl⟩ := SlAt.form hA
            obtain ⟨ap, cp, rfl⟩ := SlAt.form hPr
            obtain ⟨a3, c3, rfl⟩ := StmAt.form hTh
            obtain ⟨a4, c4, rfl⟩ := StmAt.form hEl
            have HT2 := hid (HT.out.trans (blk_step (show S.at (M.ch 125) = false from hcl) ht7))
            have hlt7 : ∀ S1, stR (stmtR N (.ok S)) = .ok S1 → S1.rest.length < S.rest.length ∧ S.n + 1 ≤ S1.n := fun S1 e => st_lt e
            clear ht7
            have hP7 := kept hb hP6
            have hQ7 := kept hb hQ6
            have own7 := ownsRow_below own6 hb
            have hbw7 := hbw6.trans (hb.mono hbw6.size)
            have hz7 := hbw7.size
            have hq7 := hlt_ hQ7
            have hm63 : acc.len + 1 ≤ maxLen := by unfold maxLen; omega
            have hmby : (acc.len + 1) * 152 ≤ 140737488355328 := by omega
            have hob := fun k' hk' => (own7.lt k' hk')
            have hWz : (((w7.alloc (.cells #[.slice a ts.length cap, .int .i64 (i7 : Nat), .int .i64 fin, .int .i64 (n7 : Nat), .int .i64 c7, .int .i64 y7] 44)).alloc (.cells #[.int .i64 op, .string x, .string y', .string p, .slice aa l.length ca, .slice ap pr.length cp, .slice a3 th.len c3, .slice a4 el.len c4] 59)).alloc (.cells #[.int .i64 op, .string x, .string y', .string p, .slice aa l.length ca, .slice ap pr.length cp, .slice a3 th.len c3, .slice a4 el.len c4] 59)).heap.size = w7.heap.size + 3 := by simp only [World.size_alloc]
            have hbW : Below w7.heap.size w7 (((w7.alloc (.cells #[.slice a ts.length cap, .int .i64 (i7 : Nat), .int .i64 fin, .int .i64 (n7 : Nat), .int .i64 c7, .int .i64 y7] 44)).alloc (.cells #[.int .i64 op, .string x, .string y', .string p, .slice aa l.length ca, .slice ap pr.length cp, .slice a3 th.len c3, .slice a4 el.len c4] 59)).alloc (.cells #[.int .i64 op, .string x, .string y', .string p, .slice aa l.length ca, .slice ap pr.length cp, .slice a3 th.len c3, .slice a4 el.len c4] 59)) := below_three _ _ _
            have hNX : (((w7.alloc (.cells #[.slice a ts.length cap, .int .i64 (i7 : Nat), .int .i64 fin, .int .i64 (n7 : Nat), .int .i64 c7, .int .i64 y7] 44)).alloc (.cells #[.int .i64 op, .string x, .string y', .string p, .slice aa l.length ca, .slice ap pr.length cp, .slice a3 th.len c3, .slice a4 el.len c4] 59)).alloc (.cells #[.int .i64 op, .string x, .string y', .string p, .slice aa l.length ca, .slice ap pr.length cp, .slice a3 th.len c3, .slice a4 el.len c4] 59)).heap[w7.heap.size]? = some (.cells #[.slice a ts.length cap, .int .i64 (i7 : Nat), .int .i64 fin, .int .i64 (n7 : Nat), .int .i64 c7, .int .i64 y7] 44) := (Below.heap_alloc _ _ _ (by simp; omega)).trans ((Below.heap_alloc _ _ _ (by simp)).trans (heap_alloc_new w7 _))
            have hTM : (((w7.alloc (.cells #[.slice a ts.length cap, .int .i64 (i7 : Nat), .int .i64 fin, .int .i64 (n7 : Nat), .int .i64 c7, .int .i64 y7] 44)).alloc (.cells #[.int .i64 op, .string x, .string y', .string p, .slice aa l.length ca, .slice ap pr.length cp, .slice a3 th.len c3, .slice a4 el.len c4] 59)).alloc (.cells #[.int .i64 op, .string x, .string y', .string p, .slice aa l.length ca, .slice ap pr.length cp, .slice a3 th.len c3, .slice a4 el.len c4] 59)).heap[w7.heap.size + 2]? = some (.cells #[.int .i64 op, .string x, .string y', .string p, .slice aa l.length ca, .slice ap pr.length cp, .slice a3 th.len c3, .slice a4 el.len c4] 59) := by have := heap_alloc_new ((w7.alloc (.cells #[.slice a ts.length cap, .int .i64 (i7 : Nat), .int .i64 fin, .int .i64 (n7 : Nat), .int .i64 c7, .int .i64 y7] 44)).alloc (.cells #[.int .i64 op, .string x, .string y', .string p, .slice aa l.length ca, .slice ap pr.length cp, .slice a3 th.len c3, .slice a4 el.len c4] 59)) (.cells #[.int .i64 op, .string x, .string y', .string p, .slice aa l.length ca, .slice ap pr.length cp, .slice a3 th.len c3, .slice a4 el.len c4] 59); simp only [World.size_alloc] at this; exact this
            go_wp2_with (at_builtin; refine wpList_append_lies _ rfl _ _ 52 rfl (w.heap.size + 2) 59 i0 _ 8 152 Tryz.underlying52 hi0 hz0 hz1 hz2 rfl (by decide) _ _ _ rfl (ownsRow_below own7 hbW) ⟨w7.heap.size + 2, 0, none⟩ 1 1 [.int .i64 op, .string x, .string y', .string p, .slice aa l.length ca, .slice ap pr.length cp, .slice a3 th.len c3, .slice a4 el.len c4] rfl rfl (World.news_of_block (cs := #[.int .i64 op, .string x, .string y', .string p, .slice aa l.length ca, .slice ap pr.length cp, .slice a3 th.len c3, .slice a4 el.len c4]) (t := 59) (fr := (0, 0)) hTM) (by simp [Value.oneCell']) Nat.one_pos hm63 hmby (by rw [hWz]; omega) (w7.heap.size + 3) hWz ?_)
            intro gg cap' w8 hown8 hgrow hat8 hlt8
            have row8 := row_stepB (n := acc.len + 1) (cap := cap') (op := op) (x := x) (y := y') (p := p) (by omega) own6 row6 hb hA hPr hTh hEl hbW hgrow (by rw [hWz]; exact hat8)
            have hP8 := kgrow hgrow (kept hbW hP7) (fun k' hk' => by have := hob k' hk'; omega)
            have hQ8 := kgrow hgrow (kept hbW hQ7) (fun k' hk' => by have := hob k' hk'; omega)
            have hX8 := kgrow hgrow hNX (fun k' hk' => by have := hob k' hk'; omega)
            have hbw8 : Below w.heap.size w w8 := bgrow (hbw7.trans (hbW.mono hz7)) hgrow (fun k' hk' => by have := hob k' hk'; omega) (by rw [hWz]; omega)
            have own8 : w8.ownsRow (w.heap.size + 2) 59 8 (.slice (some ⟨gg, 0, none⟩) (acc.len + 1) cap') (acc.app (M.one op x y' p l pr th el)).len (cs ++ [.int .i64 op, .string x, .string y', .string p, .slice aa l.length ca, .slice ap pr.length cp, .slice a3 th.len c3, .slice a4 el.len c4]) := by rw [app_one]; exact hown8
            clear hNX hTM hbW hWz hob hgrow hown8 hat8 hlt8 hb hP6 hQ6 own6 row6 hP7 hQ7 own7 hA hPr hTh hEl
            obtain ⟨x0, x1, x2, x3, x4, x5, xf⟩ := cells6 hX8
            obtain ⟨q0, q1, q2, q3, q4, q5, qf⟩ := cells6 hP8
            go_wp2_with fail
            go_roundg k
            case measure => omega
            case rel =>
              have HP : AvoidB (w.heap.size + 2) (.slice (some ⟨gg, 0, none⟩) (acc.len + 1) cap') w.heap.size := .inl (by omega)
              refine ⟨stR (stmtR N (.ok S)), i7, n7, c7, y7, acc.app (M.one op x y' p l pr th el), _, ⟨h7, set6 hP8 _ _ _ _ _ _, kset6 hQ8 (by omega) _ _ _ _ _ _, oset6 own8 (by omega) _ _ _ _ _ _, RowAt.keep (keep_setc (keep_setc (keep_setc (keep_setc (keep_setc (keep_setc keep_self HP) HP) HP) HP) HP) HP) row8, bset6 hbw8 (Nat.le_refl _) _ _ _ _ _ _, ?_, ?_, fun ho => ?_, fun S1 e => ?_, fun _ => ⟨hd1, hB1⟩⟩, HT2⟩
              · cases e : stR (stmtR N (.ok S)) with
                | error f => exact Nat.zero_le _
                | ok S1 => have := (hlt7 S1 e).1; simp only [mz] at hlt4 ⊢; omega
              · rw [app_one]; omega
              · obtain ⟨S1, e⟩ := okR_yes ho
                have h9 := (hlt7 S1 e).2
                rw [e] at h7
                have j1 := h7.idx.2.2
                have j0 := rs.idx.2.2
                rw [app_one]; omega
              · have := (hlt7 S1 e).1; have := hle S rfl; omega
        · have HX := hid (HT.out.trans (blk_out (.inr hcl)))
          go_wp2_with fail
          clear x0 x1 x2 x3 x4 x5 xf
          refine (rneed_any _ _ _ _ _ _ _ _ _ _ _ rs (hT.keep hbw6) (M.ch 125) (by decide) (by decide)).mono ?_
          rintro e w7 ⟨hb, ie, ce, ye, rfl, he⟩
          have hP7 := kept hb hP6
          have hQ7 := kept hb hQ6
          have own7 := ownsRow_below own6 hb
          have row7 := RowAt.keep (Below.keepX hb) row6
          have hbw7 := hbw6.trans (hb.mono hbw6.size)
          clear hb hP6 hQ6 own6 row6
          obtain ⟨q0, q1, q2, q3, q4, q5, qf⟩ := cells6 hQ7
          go_wp2_with fail
          refine bodyPost_ret (v := .tuple #[.agg #[.slice a ts.length cap, .int .i64 (ie : Nat), .int .i64 fin, .int .i64 (nn : Nat), .int .i64 ce, .int .i64 ye], .slice av acc.len cv]) (by simp [results, Tryz.results22, go_sem, q0, q1, q2, q3, q4, q5]) rfl ⟨?_, ie, nn, ce, ye, _, acc, rfl, by rw [HX.out]; exact he.up, ?_, fun S' x e => by rw [HX.out] at e; exact up_val _ _ e⟩
          · exact bset6 hbw7 (by omega) _ _ _ _ _ _
          · refine ⟨cs, SlAt.of_owns (oset6 own7 (by omega) _ _ _ _ _ _) (fun b hb hx => by have : b < w.heap.size := hx; omega) (by omega), ?_⟩
            refine RowAt.weak (X := AvoidB (w.heap.size + 2) (.slice av acc.len cv)) (fun b _ hx hy => hx (.inl (by have : b < w.heap.size := hy; omega))) (RowAt.keep ?_ row7)
            exact keep_setc (keep_setc (keep_setc (keep_setc (keep_setc (keep_setc keep_self HQ) HQ) HQ) HQ) HQ) HQ

theorem rblock_any (N : Nat) (hB : RBlockC N) : RBlockC (N + 1) := by
  intro a cap ts fin d r i n c y w h hT hfew hd hN
  by_cases h1 : isR r (M.ch 123) = true ∧ d = 32
  · obtain ⟨h1, h2⟩ := h1
    obtain ⟨S, rfl⟩ := isR_ok h1
    exact rblock_deep N a cap ts fin d S i n c y w h hT h2 h1
  · exact rblock_main N a cap ts fin d r i n c y w h hT hfew hd hN h1 fun _ => hB
theorem rblockC : ∀ N, RBlockC N
  | 0 => by
    intro a cap ts fin d r i n c y w h hT hfew hd hN
    cases r with
    | ok S => exact absurd (hN S rfl) (by omega)
    | error f => exact rblock_main 0 a cap ts fin d (.error f) i n c y w h hT hfew hd (fun S e => by cases e) (fun hh => by cases hh.1) fun hh => by obtain ⟨S, e⟩ := hh; cases e
  | N + 1 => rblock_any N (rblockC N)
end Go.Proofs.YtkonkdhoakcmdaaGreatDoor
