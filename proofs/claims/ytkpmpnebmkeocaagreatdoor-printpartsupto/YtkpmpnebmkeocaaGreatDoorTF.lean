/-
  The walk of the document's Read (proteanref02): what program any tokens are, or their first fault. Conditions: how many tokens there are.
-/
import Derived.Test.YtkpmpnebmkeocaaGreatDoorTE
import Derived.Test.YtkpmpnebmkeocaaGreatDoorRC
import Derived.Test.YtkpmpnebmkeocaaGreatDoorSB
set_option linter.unusedSimpArgs false
set_option linter.unusedVariables false
section
namespace Go.Proofs.YtkpmpnebmkeocaaGreatDoor
open Go.RowKit

theorem fns_stepB {base g n cap : Nat} {wr w3 W w5 : World} {v : Value} {acc : List M.Fn} {cs : List Value} {f : M.Fn} {vp vb : Value}
    (hz0 : base ≤ wr.heap.size) (own : wr.ownsRow base 34 3 v acc.length cs) (row : FnsAt wr (AvoidB base v) cs acc) (o3 : Below wr.heap.size wr w3)
    (hP : StrsAt w3 (Old wr) vp f.ps) (hT : StmAt w3 (Old wr) vb f.body)
    (hW : Below w3.heap.size w3 W) (hgrow : W.grownBy w5 v.ownBlock) (hat : v.ownBlock = some g ∨ g = W.heap.size) :
    FnsAt w5 (AvoidB base (.slice (some ⟨g, 0, none⟩) n cap)) (cs ++ [.string f.name, vp, vb]) (acc ++ [f]) := by
  have hob : ∀ k, v.ownBlock = some k → base ≤ k ∧ k < wr.heap.size := fun k hk => own.lt k hk
  have hz3 := o3.size
  have row3 : FnsAt W (AvoidB base v) cs acc := FnsAt.keep (Below.keepX hW) (FnsAt.keep (Below.keepX o3) row)
  have new3 : FnsAt W (Old wr) [.string f.name, vp, vb] [f] := FnsAt.keep (Below.keepX hW) ⟨vp, vb, [], rfl, hP, hT, rfl⟩
  have hweak : ∀ b, b < W.heap.size → (¬ AvoidB base v b ∨ ¬ Old wr b) → ¬ (b < base ∨ v.ownBlock = some b ∨ b = g) := by
    intro b hb hx hy
    have h1 : ¬ (b < base ∨ v.ownBlock = some b) := by
      intro h2
      rcases hx with hx | hx
      · exact hx h2
      · apply hx
        rcases h2 with h2 | h2
        · exact Nat.lt_of_lt_of_le h2 hz0
        · exact (hob b h2).2
    rcases hy with hy | hy | rfl
    · exact h1 (.inl hy)
    · exact h1 (.inr hy)
    · rcases hat with hat | hat
      · exact h1 (.inr hat)
      · omega
  have hx := FnsAt.app (FnsAt.weak (Y := fun b => b < base ∨ v.ownBlock = some b ∨ b = g) (fun b hb hx => hweak b hb (.inl hx)) row3) (FnsAt.weak (fun b hb hx => hweak b hb (.inr hx)) new3)
  refine FnsAt.weak ?_ (FnsAt.keep (keep_grown hgrow fun k hk => .inr (.inl hk)) hx)
  intro b _ hx hy
  apply hx
  rcases hy with hy | hy
  · exact .inl hy
  · simp only [Value.ownBlock, Option.some.injEq] at hy
    exact .inr (.inr hy.symm)

def rdNext (N : Nat) (r : RSt) (acc : List M.Fn) : M.Res (List M.Fn) := bindR r fun S => M.funcs N (S.rest.length + 1) S acc
theorem funcs_fuel {N : Nat} : ∀ (m : Nat) (S : M.St) (acc : List M.Fn) (k : Nat), S.rest.length ≤ m → S.rest.length < k → M.funcs N k S acc = M.funcs N (S.rest.length + 1) S acc
  | m, S, acc, k, hm, hk => by
    cases k with
    | zero => omega
    | succ k =>
      simp only [M.funcs]
      cases hc : S.rest.isEmpty
      · simp only [Bool.false_eq_true, if_false]
        cases hst : M.function N S with
        | error f => rfl
        | ok p =>
          obtain ⟨S1, t⟩ := p
          have hl := M.function_short hst
          cases m with
          | zero => omega
          | succ m =>
            show M.funcs N k S1 (acc ++ [t]) = M.funcs N S.rest.length S1 (acc ++ [t])
            rw [funcs_fuel m S1 _ k (by omega) (by omega), funcs_fuel m S1 _ S.rest.length (by omega) (by omega)]
      · rfl
theorem bnd_assoc {α β γ : Type} (r : M.Res α) (f : M.St → α → M.Res β) (g : M.St → β → M.Res γ) : M.bnd (M.bnd r f) g = M.bnd r fun S a => M.bnd (f S a) g := by
  cases r <;> rfl
theorem fn_eq {N : Nat} {S : M.St} {nm : ByteArray} {ps : List ByteArray} {body : M.Tr} (hn : ∀ S' x, nameR (needR (.ok S) M.kFun) = .ok (S', x) → nm = x) (hp : ∀ S' x, namesR (stR (nameR (needR (.ok S) M.kFun))) = .ok (S', x) → ps = x)
    (hb : ∀ S' x, blockR N (stR (namesR (stR (nameR (needR (.ok S) M.kFun))))) = .ok (S', x) → body = x) :
    M.function N S = bindR (stR (blockR N (stR (namesR (stR (nameR (needR (.ok S) M.kFun))))))) fun S5 => .ok (S5, ⟨nm, ps, body⟩) := by
  have e1 : M.function N S = bindR (needR (.ok S) M.kFun) fun S1 => M.bnd (M.name S1) fun S2 n => M.bnd (M.bnd (M.take S2 (M.ch 40)) fun S3 _ => M.list (M.ch 41) M.itemName S3 []) fun S4 ps => M.bnd (M.blk N S4) fun S5 b => .ok (S5, (⟨n, ps, b⟩ : M.Fn)) := by
    rw [bindR_need]
    show M.function N S = M.bnd (M.take S M.kFun) fun S1 _ => _
    unfold M.function
    congr 1
    funext S1 _
    congr 1
    funext S2 n
    rw [bnd_assoc]
  rw [e1, bind_st _ M.name _ nm hn]
  have e2 := bind_st (stR (nameR (needR (.ok S) M.kFun))) (fun S2 => M.bnd (M.take S2 (M.ch 40)) fun S3 _ => M.list (M.ch 41) M.itemName S3 []) (fun S4 ps => M.bnd (M.blk N S4) fun S5 b => .ok (S5, (⟨nm, ps, b⟩ : M.Fn))) ps hp
  refine Eq.trans e2 ?_
  exact bind_st (stR (namesR (stR (nameR (needR (.ok S) M.kFun))))) (M.blk N) (fun S5 b => .ok (S5, (⟨nm, ps, b⟩ : M.Fn))) body hb
theorem rd_step {N : Nat} {S : M.St} {acc : List M.Fn} {q : RSt} {f : M.Fn} (hne : S.rest.isEmpty = false) (h : M.function N S = bindR q fun S5 => .ok (S5, f)) : rdNext N (.ok S) acc = rdNext N q (acc ++ [f]) ∧ ∀ S1, q = .ok S1 → S1.rest.length + 3 ≤ S.rest.length := by
  constructor
  · unfold rdNext
    show M.funcs N (S.rest.length + 1) S acc = _
    simp only [M.funcs, hne, Bool.false_eq_true, if_false]
    rw [h]
    cases q with
    | error e => rfl
    | ok S1 =>
      have hl := M.function_short (S := S) (S' := S1) (f := f) (N := N) h
      show M.funcs N S.rest.length S1 (acc ++ [f]) = M.funcs N (S1.rest.length + 1) S1 (acc ++ [f])
      rw [funcs_fuel S1.rest.length S1 _ S.rest.length (Nat.le_refl _) (by omega)]
  · rintro S1 rfl
    exact M.function_short (f := f) h
theorem rd_end {N : Nat} {S : M.St} {acc : List M.Fn} (h : S.rest.isEmpty = true) : rdNext N (.ok S) acc = .ok (S, acc) := by
  unfold rdNext
  show M.funcs N (S.rest.length + 1) S acc = _
  simp only [M.funcs, h, if_true]
theorem readR_eq (ts : List M.Tok) (fin : Int) : M.readR ts fin = match rdNext (ts.length + 1) (.ok ⟨ts, fin, 0, 0⟩) [] with | .ok p => (p.2, (0, 0)) | .error f => ([], f) := by
  have e : rdNext (ts.length + 1) (.ok ⟨ts, fin, 0, 0⟩) [] = M.funcs (ts.length + 1) (ts.length + 1) ⟨ts, fin, 0, 0⟩ [] := rfl
  rw [e]
  unfold M.readR M.read
  cases M.funcs (ts.length + 1) (ts.length + 1) ⟨ts, fin, 0, 0⟩ [] <;> rfl

theorem cells2 {w : World} {r : Nat} {T : TypeId} {v0 v1 : Value} (h : w.heap[r]? = some (.cells #[v0, v1] T (0, 0))) :
    w.cell? ⟨r, 0, none⟩ = some v0 ∧ w.cell? ⟨r, 1, none⟩ = some v1 ∧ (∀ i, w.frozen? ⟨r, i, none⟩ = false) ∧ r < w.heap.size := by
  refine ⟨?_, ?_, fun i => Lib.frozen_of_heap h i, (Array.getElem?_eq_some_iff.1 h).1⟩
  all_goals (rw [Lib.cell_of_heap h]; rfl)
theorem prg_set {W : World} {g : Nat} {T : TypeId} {v0 : Value} (h : W.heap[g]? = some (.cells #[v0] T (0, 0))) (u : Value) : (W.setCell ⟨g, 0, none⟩ u).heap[g]? = some (.cells #[u] T (0, 0)) := heap_setCell_same _ _ _ _ _ _ h
structure RdIn (a : Option Addr) (cap : Nat) (ts : List M.Tok) (fin : Int) (w wr : World) (k : Nat) (v : Value) (r : RSt) (i n : Nat) (c y : Int) (acc : List M.Fn) (cs : List Value) : Prop where
  rs : RS ts fin 0 r i n c y
  rp : wr.heap[w.heap.size]? = some (.cells #[.slice none 0 0] 24 (0, 0))
  rf : wr.heap[w.heap.size + 1]? = some (.cells #[.int .i64 0, .int .i64 0] 39 (0, 0))
  box : wr.heap[w.heap.size + 1 + 1]? = some (.cells #[.slice a ts.length cap, .int .i64 (i : Nat), .int .i64 fin, .int .i64 (n : Nat), .int .i64 c, .int .i64 y] 81 (0, 0))
  prg : wr.heap[w.heap.size + 1 + 1 + 1]? = some (.cells #[v] 24 (0, 0))
  own : wr.ownsRow (w.heap.size + 4) 34 3 v acc.length cs
  row : FnsAt wr (AvoidB (w.heap.size + 4) v) cs acc
  bel : Below w.heap.size w wr
  lt : mz r ≤ k
  few : acc.length ≤ 1466015503670
  few' : okR r = true → 3 * acc.length ≤ i

set_option maxRecDepth 16000 in
set_option maxHeartbeats 6400000 in
theorem rread_any (a : Option Addr) (cap : Nat) (ts : List M.Tok) (fin : Int) (w : World) (hT : TokAt w (.slice a ts.length cap) ts) (hfew : ts.length ≤ 4398046511000) :
    Calls Tryz.prog 30 #[.slice a ts.length cap, .int .i64 fin] w fun e w' => Below w.heap.size w w' ∧ ∃ vf, e = .returned (.tuple #[.agg #[vf], .agg #[.int .i64 (M.readR ts fin).2.1, .int .i64 (M.readR ts fin).2.2]]) ∧ ProgAt w' (Old w) vf (M.readR ts fin).1 := by
  have HR := hid (readR_eq ts fin)
  have hB := hid (rblockC (ts.length + 1))
  obtain ⟨i0, hi0, hz0, hz1, hz2⟩ := info_parts infoFn
  have hrs : RS ts fin 0 (.ok ⟨ts, fin, 0, 0⟩) 0 0 0 0 := ⟨Nat.zero_le _, by omega, fun S e => ⟨rfl, rfl, by cases e; rfl⟩, fun f e => by cases e⟩
  have hcap0 : ts.length ≤ 4398046511000 := hfew
  go_enter Tryz.func30, Tryz.ntmps30
  go_wp2_with fail
  obtain ⟨hRP, hRF, hPP, hGG, hbn⟩ := four_new (w := w) (w1 := ((((w.alloc (.cells #[.slice none 0 0] 24)).alloc (.cells #[.int .i64 0, .int .i64 0] 39)).alloc (.cells #[.slice a ts.length cap, .int .i64 0, .int .i64 fin, .int .i64 0, .int .i64 0, .int .i64 0] 81)).alloc (.cells #[.slice none 0 0] 24))) (Below.refl _ _)
  go_loopg [] (ts.length + 1) (fun k wr => ∃ v rr ii nn cc yy acc cs, RdIn a cap ts fin w wr k v rr ii nn cc yy acc cs ∧ Hid (rdNext (ts.length + 1) (.ok ⟨ts, fin, 0, 0⟩) [] = rdNext (ts.length + 1) rr acc))
  case atStart => exact ⟨.slice none 0 0, .ok ⟨ts, fin, 0, 0⟩, 0, 0, 0, 0, [], [], ⟨hrs, hRP, hRF, hPP, hGG, World.ownsRow_nil _ _ _ _, rfl, hbn, Nat.le_refl _, Nat.zero_le _, fun _ => Nat.zero_le _⟩, rfl⟩
  case round =>
    obtain ⟨v, rr, ii, nn, cc, yy, acc, cs, ⟨rs, hR4, hF4, hP4, hG4, own4, row4, hbw4, hlt4, hlen, hlen'⟩, HT⟩ := hrel
    clear hRP hRF hPP hGG hbn hrs
    have hil := rs.lt
    have hnl := rs.lim
    obtain ⟨av, cv, rfl⟩ := own_form own4
    obtain ⟨x0, x1, x2, x3, x4, x5, xf⟩ := cells6 hP4
    go_wp2_with fail
    clear x0 x1 x2 x3 x4 x5 xf
    refine (rok_any _ _ _ _ _ _ _ _ _ _ _ _ rs).mono ?_
    rintro e w5 ⟨rfl, hb⟩
    have hR5 := kept hb hR4
    have hF5 := kept hb hF4
    have hP5 := kept hb hP4
    have hG5 := kept hb hG4
    have own5 := ownsRow_below own4 hb
    have row5 := FnsAt.keep (Below.keepX hb) row4
    have hbw5 := hbw4.trans (hb.mono hbw4.size)
    clear hb hR4 hF4 hP4 hG4 own4 row4
    obtain ⟨x0, x1, x2, x3, x4, x5, xf⟩ := cells6 hP5
    cases hok : okR rr
    · obtain ⟨f, rfl⟩ := okR_no hok
      have HE : Hid (M.readR ts fin = ([], f)) := by unfold Hid; rw [HR.out, HT.out]; rfl
      obtain ⟨hcf, hyf, _⟩ := rs.bad f rfl
      subst hcf hyf
      go_wp2_with fail
      clear x0 x1 x2 x3 x4 x5 xf
      refine (rok_any _ _ _ _ _ _ _ _ _ _ _ _ rs).mono ?_
      rintro e w6 ⟨rfl, hb⟩
      have hR6 := kept hb hR5
      have hF6 := kept hb hF5
      have hP6 := kept hb hP5
      have hG6 := kept hb hG5
      have hbw6 := hbw5.trans (hb.mono hbw5.size)
      clear hb hR5 hF5 hP5 hG5
      obtain ⟨x0, x1, x2, x3, x4, x5, xf⟩ := cells6 hP6
      have c0 := cell0 hR6
      have f0 := Lib.frozen_of_heap hR6
      obtain ⟨g0, g1, gf, gz⟩ := cells2 hF6
      have e0 : w.heap.size < w6.heap.size := by omega
      have e1 := hlt_ hP6
      have m1 : ¬ w.heap.size + 1 + 1 = w.heap.size := by omega
      have m2 : ¬ w.heap.size + 1 + 1 = w.heap.size + 1 := by omega
      rw [hok]
      go_wp2_with fail
      go_region
      all_goals
        go_wp2_with fail
        refine bodyPost_ret (v := .tuple #[.agg #[.slice none 0 0], .agg #[.int .i64 f.1, .int .i64 f.2]]) (by simp [results, Tryz.results30, go_sem, c0, g0, g1, e0, gz]) rfl ⟨?_, .slice none 0 0, by rw [HE.out], by rw [HE.out]; exact ⟨[], SlAt.nil _ _, rfl⟩⟩
        repeat (first | with_reducible exact hbw6 | with_reducible refine Below.setCell ?_ (by first | omega | (simp; done) | (simp; omega)) _ | with_reducible refine Below.drew ?_ | with_reducible refine Below.alloc ?_ (by first | omega | (simp; done) | (simp; omega)) _)
    · obtain ⟨S, rfl⟩ := okR_yes hok
      obtain ⟨hcf, hyf, _⟩ := rs.good S rfl
      subst hcf hyf
      have hSr := rs.idx.1
      have HSr := hid hSr
      clear hSr
      by_cases hlt : ii < ts.length
      · have hlti : (ii : Int) < (ts.length : Int) := by omega
        have hne : S.rest.isEmpty = false := by cases hr : S.rest with | nil => (have := HSr.out; rw [hr] at this; simp at this; omega) | cons x l => rfl
        have HNE := hid hne
        clear hne
        have hl1 := hlen' hok
        cases gk with
        | zero => simp [mz] at hlt4
        | succ k =>
          go_wp2_with fail
          clear x0 x1 x2 x3 x4 x5 xf
          refine (rneed_any _ _ _ _ _ _ _ _ _ _ _ rs (hT.keep hbw5) M.kFun (by decide) (by decide)).mono ?_
          rintro e w6 ⟨hb, i6, c6, y6, rfl, h6⟩
          have hR6 := kept hb hR5
          have hF6 := kept hb hF5
          have hP6 := kept hb hP5
          have hG6 := kept hb hG5
          have own6 := ownsRow_below own5 hb
          have row6 := FnsAt.keep (Below.keepX hb) row5
          have hbw6 := hbw5.trans (hb.mono hbw5.size)
          clear hb hR5 hF5 hP5 hG5 own5 row5
          go_wp2_with fail
          refine (rname_any _ _ _ _ _ _ _ _ _ _ _ h6 (hT.keep hbw6)).mono ?_
          rintro e w7 ⟨hb, i7, c7, y7, nm, rfl, h7, hnm⟩
          have hR7 := kept hb hR6
          have hF7 := kept hb hF6
          have hP7 := kept hb hP6
          have hG7 := kept hb hG6
          have own7 := ownsRow_below own6 hb
          have row7 := FnsAt.keep (Below.keepX hb) row6
          have hbw7 := hbw6.trans (hb.mono hbw6.size)
          clear hb hR6 hF6 hP6 hG6 own6 row6
          have hg7 := hlt_ hG7
          go_wp2_with fail
          have row7' := row7
          have own7' := own7
          refine (rnames_any _ _ _ _ _ _ _ _ _ _ _ h7 (hT.keep (hbw7.trans ((below_box _).mono hbw7.size))) hfew).mono ?_
          rintro e w8 ⟨hb, i8, c8, y8, vp, ps, rfl, h8, hvp, hps⟩
          obtain ⟨_, _, hbn⟩ := one_new hb
          have hR8 := kept hbn hR7
          have hF8 := kept hbn hF7
          have hP8 := kept hbn hP7
          have hG8 := kept hbn hG7
          have own8 := ownsRow_below own7 hbn
          have row8 := FnsAt.keep (Below.keepX hbn) row7
          have hbw8 := hbw7.trans (hbn.mono hbw7.size)
          have o78 := hbn
          clear hb hbn hR7 hF7 hP7 hG7 own7 row7
          have hvp8 : StrsAt w8 (Old w7) vp ps := SlAt.weak hvp fun b _ hx hy => hx (by show b < _; have : b < w7.heap.size := hy; simp only [World.size_alloc]; omega)
          obtain ⟨ap, cp, rfl⟩ := SlAt.form hvp
          clear hvp
          have hsh : ∀ S1, stR (namesR (stR (nameR (needR (.ok S) M.kFun)))) = .ok S1 → S1.rest.length < ts.length + 1 := fun S1 e => by rw [e] at h8; have := h8.idx.1; omega
          have hz78 := o78.size
          go_wp2_with fail
          refine (hB.out _ _ _ _ _ _ _ _ _ _ _ h8 (hT.keep (hbw8.trans ((below_box _).mono hbw8.size))) hfew (Nat.zero_le _) hsh).mono ?_
          rintro e w9 ⟨hb, i9, n9, c9, y9, vb, body, rfl, h9, hvb, hbd⟩
          obtain ⟨_, _, hbn⟩ := one_new hb
          have hR9 := kept hbn hR8
          have hF9 := kept hbn hF8
          have hP9 := kept hbn hP8
          have hG9 := kept hbn hG8
          have own9 := ownsRow_below own8 hbn
          have row9 := FnsAt.keep (Below.keepX hbn) row8
          have hbw9 := hbw8.trans (hbn.mono hbw8.size)
          have o89 := hbn
          clear hb hbn hR8 hF8 hP8 hG8 own8 row8
          have hvb9 : StmAt w9 (Old w7) vb body := hvb.weak fun b _ hx hy => hx (by show b < _; have : b < w7.heap.size := hy; simp only [World.size_alloc]; omega)
          obtain ⟨ab, cb, rfl⟩ := StmAt.form hvb
          clear hvb
          have hvp9 := SlAt.bel hvp8 o89
          have o79 : Below w7.heap.size w7 w9 := o78.trans (o89.mono o78.size)
          have HF := hid (fn_eq hnm hps hbd)
          clear hnm hps hbd hsh h8 h7 h6
          generalize stR (blockR (ts.length + 1) (stR (namesR (stR (nameR (needR (.ok S) M.kFun)))))) = q at h9 HF
          have HT2 := hid (rd_step (acc := acc) HNE.out HF.out)
          have hz9 := hbw9.size
          have hg9 := hlt_ hG9
          have hm63 : acc.length + 1 ≤ maxLen := by unfold maxLen; omega
          have hmby : (acc.length + 1) * 64 ≤ 140737488355328 := by omega
          have hob := fun k' hk' => (own9.lt k' hk')
          have hWz : ((w9.alloc (.cells #[.slice a ts.length cap, .int .i64 (i9 : Nat), .int .i64 fin, .int .i64 (n9 : Nat), .int .i64 c9, .int .i64 y9] 81)).alloc (.cells #[.string nm, .slice ap ps.length cp, .slice ab body.len cb] 34)).heap.size = w9.heap.size + 2 := by simp only [World.size_alloc]
          have hbW : Below w9.heap.size w9 ((w9.alloc (.cells #[.slice a ts.length cap, .int .i64 (i9 : Nat), .int .i64 fin, .int .i64 (n9 : Nat), .int .i64 c9, .int .i64 y9] 81)).alloc (.cells #[.string nm, .slice ap ps.length cp, .slice ab body.len cb] 34)) := below_two _ _
          have hNX : ((w9.alloc (.cells #[.slice a ts.length cap, .int .i64 (i9 : Nat), .int .i64 fin, .int .i64 (n9 : Nat), .int .i64 c9, .int .i64 y9] 81)).alloc (.cells #[.string nm, .slice ap ps.length cp, .slice ab body.len cb] 34)).heap[w9.heap.size]? = some (.cells #[.slice a ts.length cap, .int .i64 (i9 : Nat), .int .i64 fin, .int .i64 (n9 : Nat), .int .i64 c9, .int .i64 y9] 81) := (Below.heap_alloc _ _ _ (by simp)).trans (heap_alloc_new w9 _)
          have hTM : ((w9.alloc (.cells #[.slice a ts.length cap, .int .i64 (i9 : Nat), .int .i64 fin, .int .i64 (n9 : Nat), .int .i64 c9, .int .i64 y9] 81)).alloc (.cells #[.string nm, .slice ap ps.length cp, .slice ab body.len cb] 34)).heap[w9.heap.size + 1]? = some (.cells #[.string nm, .slice ap ps.length cp, .slice ab body.len cb] 34) := by have := heap_alloc_new (w9.alloc (.cells #[.slice a ts.length cap, .int .i64 (i9 : Nat), .int .i64 fin, .int .i64 (n9 : Nat), .int .i64 c9, .int .i64 y9] 81)) (.cells #[.string nm, .slice ap ps.length cp, .slice ab body.len cb] 34); simp only [World.size_alloc] at this; exact this
          have d0 := cell0 hG9
          have df := Lib.frozen_of_heap hG9
          have e2 : w.heap.size + 1 + 1 < w9.heap.size := by omega
          go_wp2_with (at_builtin; refine wpList_append_lies _ rfl _ _ 22 rfl (w.heap.size + 4) 34 i0 _ 3 64 Tryz.underlying22 hi0 hz0 hz1 hz2 rfl (by decide) _ _ _ rfl (ownsRow_below own9 hbW) ⟨w9.heap.size + 1, 0, none⟩ 1 1 [.string nm, .slice ap ps.length cp, .slice ab body.len cb] rfl rfl (World.news_of_block (cs := #[.string nm, .slice ap ps.length cp, .slice ab body.len cb]) (t := 34) (fr := (0, 0)) hTM) (by simp [Value.oneCell']) Nat.one_pos hm63 hmby (by rw [hWz]; omega) (w9.heap.size + 2) hWz ?_)
          intro gg cap' w10 hown10 hgrow hat10 hlt10
          have row10 := fns_stepB (n := acc.length + 1) (cap := cap') (f := ⟨nm, ps, body⟩) (by omega) own7' row7' o79 hvp9 hvb9 hbW hgrow (by rw [hWz]; exact hat10)
          have hR10 := kgrow hgrow (kept hbW hR9) (fun k' hk' => by have := hob k' hk'; omega)
          have hF10 := kgrow hgrow (kept hbW hF9) (fun k' hk' => by have := hob k' hk'; omega)
          have hP10 := kgrow hgrow (kept hbW hP9) (fun k' hk' => by have := hob k' hk'; omega)
          have hG10 := kgrow hgrow (kept hbW hG9) (fun k' hk' => by have := hob k' hk'; omega)
          have hX10 := kgrow hgrow hNX (fun k' hk' => by have := hob k' hk'; omega)
          have hbw10 : Below w.heap.size w w10 := bgrow (hbw9.trans (hbW.mono hz9)) hgrow (fun k' hk' => by have := hob k' hk'; omega) (by rw [hWz]; omega)
          have own10 : w10.ownsRow (w.heap.size + 4) 34 3 (.slice (some ⟨gg, 0, none⟩) (acc.length + 1) cap') (acc ++ [(⟨nm, ps, body⟩ : M.Fn)]).length (cs ++ [.string nm, .slice ap ps.length cp, .slice ab body.len cb]) := by rw [List.length_append]; exact hown10
          clear hNX hTM hbW hWz hob hgrow hown10 hat10 hlt10 hR9 hF9 hP9 hG9 own9 row9 own7' row7' d0 df o79 o78 o89 hvp9 hvb9 hvp8 HF
          obtain ⟨x0, x1, x2, x3, x4, x5, xf⟩ := cells6 hX10
          obtain ⟨q0, q1, q2, q3, q4, q5, qf⟩ := cells6 hP10
          have d0 := cell0 hG10
          have df := Lib.frozen_of_heap hG10
          have m1 : ¬ w9.heap.size = w.heap.size + 1 + 1 + 1 := by omega
          have m3 : ¬ w.heap.size + 1 + 1 = w.heap.size + 1 + 1 + 1 := by omega
          go_wp2_with fail
          have HP : AvoidB (w.heap.size + 4) (.slice (some ⟨gg, 0, none⟩) (acc.length + 1) cap') (w.heap.size + 1 + 1) := .inl (by omega)
          have HG : AvoidB (w.heap.size + 4) (.slice (some ⟨gg, 0, none⟩) (acc.length + 1) cap') (w.heap.size + 1 + 1 + 1) := .inl (by omega)
          have hR11 := kset6 (kset hR10 (p := ⟨w.heap.size + 1 + 1 + 1, 0, none⟩) (show w.heap.size ≠ w.heap.size + 1 + 1 + 1 by omega) (.slice (some ⟨gg, 0, none⟩) (acc.length + 1) cap')) (show w.heap.size ≠ w.heap.size + 1 + 1 by omega) (.slice a ts.length cap) (.int .i64 (i9 : Nat)) (.int .i64 fin) (.int .i64 (n9 : Nat)) (.int .i64 c9) (.int .i64 y9)
          have hF11 := kset6 (kset hF10 (p := ⟨w.heap.size + 1 + 1 + 1, 0, none⟩) (show w.heap.size + 1 ≠ w.heap.size + 1 + 1 + 1 by omega) (.slice (some ⟨gg, 0, none⟩) (acc.length + 1) cap')) (show w.heap.size + 1 ≠ w.heap.size + 1 + 1 by omega) (.slice a ts.length cap) (.int .i64 (i9 : Nat)) (.int .i64 fin) (.int .i64 (n9 : Nat)) (.int .i64 c9) (.int .i64 y9)
          have hP11 := set6 (kset hP10 (p := ⟨w.heap.size + 1 + 1 + 1, 0, none⟩) (show w.heap.size + 1 + 1 ≠ w.heap.size + 1 + 1 + 1 by omega) (.slice (some ⟨gg, 0, none⟩) (acc.length + 1) cap')) (.slice a ts.length cap) (.int .i64 (i9 : Nat)) (.int .i64 fin) (.int .i64 (n9 : Nat)) (.int .i64 c9) (.int .i64 y9)
          have hG11 := kset6 (prg_set hG10 (.slice (some ⟨gg, 0, none⟩) (acc.length + 1) cap')) (show w.heap.size + 1 + 1 + 1 ≠ w.heap.size + 1 + 1 by omega) (.slice a ts.length cap) (.int .i64 (i9 : Nat)) (.int .i64 fin) (.int .i64 (n9 : Nat)) (.int .i64 c9) (.int .i64 y9)
          have own11 := oset6 (ownsRow_setCell_below own10 (a := ⟨w.heap.size + 1 + 1 + 1, 0, none⟩) (show w.heap.size + 1 + 1 + 1 < (w.heap.size + 4) by omega) (.slice (some ⟨gg, 0, none⟩) (acc.length + 1) cap')) (show w.heap.size + 1 + 1 < (w.heap.size + 4) by omega) (.slice a ts.length cap) (.int .i64 (i9 : Nat)) (.int .i64 fin) (.int .i64 (n9 : Nat)) (.int .i64 c9) (.int .i64 y9)
          have row11 : FnsAt (((((((w10.setCell ⟨w.heap.size + 1 + 1 + 1, 0, none⟩ (.slice (some ⟨gg, 0, none⟩) (acc.length + 1) cap')).setCell ⟨w.heap.size + 1 + 1, 0, none⟩ (.slice a ts.length cap)).setCell ⟨w.heap.size + 1 + 1, 1, none⟩ (.int .i64 (i9 : Nat))).setCell ⟨w.heap.size + 1 + 1, 2, none⟩ (.int .i64 fin)).setCell ⟨w.heap.size + 1 + 1, 3, none⟩ (.int .i64 (n9 : Nat))).setCell ⟨w.heap.size + 1 + 1, 4, none⟩ (.int .i64 c9)).setCell ⟨w.heap.size + 1 + 1, 5, none⟩ (.int .i64 y9)) (AvoidB (w.heap.size + 4) (.slice (some ⟨gg, 0, none⟩) (acc.length + 1) cap')) (cs ++ [.string nm, .slice ap ps.length cp, .slice ab body.len cb]) (acc ++ [(⟨nm, ps, body⟩ : M.Fn)]) := FnsAt.keep (keep_setc (keep_setc (keep_setc (keep_setc (keep_setc (keep_setc (keep_setc keep_self HG) HP) HP) HP) HP) HP) HP) row10
          have hbw11 := bset6 (hbw10.setCell (p := ⟨w.heap.size + 1 + 1 + 1, 0, none⟩) (show w.heap.size ≤ w.heap.size + 1 + 1 + 1 by omega) (.slice (some ⟨gg, 0, none⟩) (acc.length + 1) cap')) (show w.heap.size ≤ w.heap.size + 1 + 1 by omega) (.slice a ts.length cap) (.int .i64 (i9 : Nat)) (.int .i64 fin) (.int .i64 (n9 : Nat)) (.int .i64 c9) (.int .i64 y9)
          generalize hW : (((((((w10.setCell ⟨w.heap.size + 1 + 1 + 1, 0, none⟩ (.slice (some ⟨gg, 0, none⟩) (acc.length + 1) cap')).setCell ⟨w.heap.size + 1 + 1, 0, none⟩ (.slice a ts.length cap)).setCell ⟨w.heap.size + 1 + 1, 1, none⟩ (.int .i64 (i9 : Nat))).setCell ⟨w.heap.size + 1 + 1, 2, none⟩ (.int .i64 fin)).setCell ⟨w.heap.size + 1 + 1, 3, none⟩ (.int .i64 (n9 : Nat))).setCell ⟨w.heap.size + 1 + 1, 4, none⟩ (.int .i64 c9)).setCell ⟨w.heap.size + 1 + 1, 5, none⟩ (.int .i64 y9)) = w11 at hR11 hF11 hP11 hG11 own11 row11 hbw11 ⊢
          clear hW HP HG hR10 hF10 hP10 hG10 own10 row10 hX10 d0 df x0 x1 x2 x3 x4 x5 xf q0 q1 q2 q3 q4 q5 qf
          go_roundg k
          case measure => omega
          case rel =>
            refine ⟨_, q, i9, n9, c9, y9, acc ++ [(⟨nm, ps, body⟩ : M.Fn)], _, ⟨h9, hR11, hF11, hP11, hG11, own11, row11, hbw11, ?_, ?_, fun ho => ?_⟩, ?_⟩
            · cases q with
              | error f => exact Nat.zero_le _
              | ok S1 => have := HT2.out.2 S1 rfl; simp only [mz] at hlt4 ⊢; omega
            · simp only [List.length_append, List.length_cons, List.length_nil]; omega
            · obtain ⟨S1, rfl⟩ := okR_yes ho
              have h10 := HT2.out.2 S1 rfl
              have j1 := h9.idx.1
              have j2 := h9.lt
              have j0 := HSr.out
              simp only [List.length_append, List.length_cons, List.length_nil]
              omega
            · unfold Hid; rw [HT.out]; exact HT2.out.1
      · have hlti : ¬ (ii : Int) < (ts.length : Int) := by omega
        have hem : S.rest.isEmpty = true := by cases hr : S.rest with | nil => rfl | cons x l => (have := HSr.out; rw [hr] at this; simp at this; omega)
        have HE : Hid (M.readR ts fin = (acc, (0, 0))) := by unfold Hid; rw [HR.out, HT.out, rd_end hem]
        clear hem
        go_wp2_with fail
        clear x0 x1 x2 x3 x4 x5 xf
        refine (rok_any _ _ _ _ _ _ _ _ _ _ _ _ rs).mono ?_
        rintro e w6 ⟨rfl, hb⟩
        have hR6 := kept hb hR5
        have hF6 := kept hb hF5
        have hP6 := kept hb hP5
        have hG6 := kept hb hG5
        have own6 := ownsRow_below own5 hb
        have row6 := FnsAt.keep (Below.keepX hb) row5
        have hbw6 := hbw5.trans (hb.mono hbw5.size)
        clear hb hR5 hF5 hP5 hG5 own5 row5
        have c0 := cell0 hR6
        have f0 := Lib.frozen_of_heap hR6
        have d0 := cell0 hG6
        have df := Lib.frozen_of_heap hG6
        obtain ⟨g0, g1, gf, gz⟩ := cells2 hF6
        have e0 : w.heap.size < w6.heap.size := by omega
        have e1 := hlt_ hP6
        have e3 := hlt_ hG6
        rw [hok]
        go_wp2_with fail
        refine bodyPost_ret (v := .tuple #[.agg #[.slice av acc.length cv], .agg #[.int .i64 0, .int .i64 0]]) (by simp [results, Tryz.results30, go_sem, c0, g0, g1, e0, gz]) rfl ⟨?_, .slice av acc.length cv, by rw [HE.out], ?_⟩
        · repeat (first | with_reducible exact hbw6 | with_reducible refine Below.setCell ?_ (by first | omega | (simp; done) | (simp; omega)) _ | with_reducible refine Below.drew ?_ | with_reducible refine Below.alloc ?_ (by first | omega | (simp; done) | (simp; omega)) _)
        · rw [HE.out]
          have hX : ∀ b, b < (w.heap.size + 4) → AvoidB (w.heap.size + 4) (.slice av acc.length cv) b := fun b hb => .inl hb
          refine ⟨cs, ((SlAt.of_owns (X := fun b => b < (w.heap.size + 4)) own6 (fun b hb hx => by omega) (by omega)).keep ?_).weak fun b _ hx hy => hx (by have : b < w.heap.size := hy; omega), FnsAt.weak (X := AvoidB (w.heap.size + 4) (.slice av acc.length cv)) (fun b _ hx hy => hx (.inl (by have : b < w.heap.size := hy; omega))) (FnsAt.keep ?_ row6)⟩
          · repeat (first | with_reducible exact keep_self | with_reducible refine keep_drew ?_ | with_reducible refine keep_alloc ?_ | with_reducible refine keep_setc ?_ (by first | omega | (simp; done) | (simp; omega) | exact hX _ (by simp <;> omega)))
          · repeat (first | with_reducible exact keep_self | with_reducible refine keep_drew ?_ | with_reducible refine keep_alloc ?_ | with_reducible refine keep_setc ?_ (by first | omega | (simp; done) | (simp; omega) | exact hX _ (by simp <;> omega)))
end Go.Proofs.YtkpmpnebmkeocaaGreatDoor
end
section
namespace Go.Proofs.YtkpmpnebmkeocaaGreatDoor
open Go.RowKit

set_option maxRecDepth 16000 in
set_option maxHeartbeats 3200000 in
theorem rparse_any (s : ByteArray) (w : World) (hs : s.size ≤ maxLen) :
    Calls Tryz.prog 17 #[.string s] w fun e w' => Below w.heap.size w w' ∧ ∃ vf, e = .returned (.tuple #[.agg #[vf], .agg #[.int .i64 (M.parseR s.data.toList).2.1, .int .i64 (M.parseR s.data.toList).2.2]]) ∧ ProgAt w' (Old w) vf (M.parseR s.data.toList).1 := by
  have hs' := hs
  unfold maxLen at hs'
  have hbw0 := Below.refl w.heap.size w
  have hsm := (M.lex_small s.data.toList).1
  go_enter Tryz.func17, Tryz.ntmps17
  go_wp2_with fail
  refine (rLex_any s _ hs).mono ?_
  rintro e w1 ⟨v1, rfl, own1, hb⟩
  obtain ⟨ht1, hap1, hcap1, _⟩ := lexed hb own1
  obtain ⟨av, cv, rfl⟩ := own_form own1
  obtain ⟨hR1, hF1, _, hbw1⟩ := two_new hb
  clear hb own1
  have c0 := cell0 hR1
  have f0 := Lib.frozen_of_heap hR1
  obtain ⟨g0, g1, gf, gz⟩ := cells2 hF1
  have e0 : w.heap.size < w1.heap.size := by omega
  by_cases hc : (M.lex s.data.toList).2.1 = 0
  · have HP : Hid (M.parseR s.data.toList = M.readR (M.lex s.data.toList).1 s.size) := by unfold Hid M.parseR; rw [if_pos hc, len_list]
    have hW : w.heap.size + 2 ≤ w1.heap.size + 1 := by omega
    go_wp2_with fail
    refine (rread_any av cv (M.lex s.data.toList).1 _ _ (ht1.alloc _) (by omega)).mono ?_
    rintro e w2 ⟨hb, vf, rfl, hP⟩
    obtain ⟨_, _, hbn⟩ := one_new hb
    have hR2 := kept hbn hR1
    have hF2 := kept hbn hF1
    have hbw2 := hbw1.trans (hbn.mono hbw1.size)
    obtain ⟨af, cf, rfl⟩ : ∃ a c, vf = .slice a (M.readR (M.lex s.data.toList).1 s.size).1.length c := by obtain ⟨_, h1, _⟩ := hP; exact SlAt.form h1
    clear c0 f0 g0 g1 gf gz hR1 hF1
    have c0 := cell0 hR2
    have f0 := Lib.frozen_of_heap hR2
    obtain ⟨g0, g1, gf, gz⟩ := cells2 hF2
    have hz2 := hbn.size
    have e2 : w.heap.size < w2.heap.size := by omega
    have hP2 : ProgAt w2 (fun b => b < w.heap.size + 2) (.slice af (M.readR (M.lex s.data.toList).1 s.size).1.length cf) (M.readR (M.lex s.data.toList).1 s.size).1 := hP.weak fun b _ hx hy => hx (by show b < _; rw [World.size_alloc]; exact Nat.lt_of_lt_of_le hy hW)
    clear hP hb hbn
    generalize M.readR (M.lex s.data.toList).1 s.size = res at *
    go_wp2_with fail
    refine bodyPost_ret (v := .tuple #[.agg #[.slice af res.1.length cf], .agg #[.int .i64 res.2.1, .int .i64 res.2.2]]) (by simp [results, Tryz.results17, go_sem, c0, g0, g1, e2, gz]) rfl ⟨?_, .slice af res.1.length cf, by rw [HP.out], ?_⟩
    · repeat (first | with_reducible exact hbw2 | with_reducible refine Below.setCell ?_ (by first | omega | (simp; done) | (simp; omega)) _ | with_reducible refine Below.drew ?_ | with_reducible refine Below.alloc ?_ (by first | omega | (simp; done) | (simp; omega)) _)
    · rw [HP.out]
      refine (hP2.keep ?_).weak fun b _ hx hy => hx (by have : b < w.heap.size := hy; omega)
      repeat (first | with_reducible exact keep_self | with_reducible refine keep_drew ?_ | with_reducible refine keep_alloc ?_ | with_reducible refine keep_setc ?_ (by first | omega | (simp; done) | (simp; omega)))
  · have HP : Hid (M.parseR s.data.toList = ([], (M.lex s.data.toList).2)) := by unfold Hid M.parseR; rw [if_neg hc]
    have hcb : ((M.lex s.data.toList).2.1 != 0) = true := by simpa using hc
    have n1 : ¬ w.heap.size = w1.heap.size := by omega
    have n2 : ¬ w.heap.size + 1 = w1.heap.size := by omega
    have n3 : ¬ w1.heap.size = w.heap.size := by omega
    have n4 : ¬ w1.heap.size = w.heap.size + 1 := by omega
    go_wp2_with fail
    go_region
    all_goals
      go_wp2_with fail
      refine bodyPost_ret (v := .tuple #[.agg #[.slice none 0 0], .agg #[.int .i64 (M.lex s.data.toList).2.1, .int .i64 (M.lex s.data.toList).2.2]]) (by simp [results, Tryz.results17, go_sem, c0, g0, g1, e0, gz]) rfl ⟨?_, .slice none 0 0, by rw [HP.out], by rw [HP.out]; exact ⟨[], SlAt.nil _ _, rfl⟩⟩
      repeat (first | with_reducible exact hbw1 | with_reducible refine Below.setCell ?_ (by first | omega | (simp; done) | (simp; omega)) _ | with_reducible refine Below.drew ?_ | with_reducible refine Below.alloc ?_ (by first | omega | (simp; done) | (simp; omega)) _)
theorem rparseAt (s : ByteArray) (p : List M.Fn) (f : M.Flt) (w : World) (hs : s.size ≤ maxLen) (hr : M.parseR s.data.toList = (p, f)) :
    Calls Tryz.prog 17 #[.string s] w fun e w' => Below w.heap.size w w' ∧ ∃ a c, e = .returned (.tuple #[.agg #[.slice a p.length c], .agg #[.int .i64 f.1, .int .i64 f.2]]) ∧ ProgAt w' NoX (.slice a p.length c) p := by
  refine (rparse_any s w hs).mono ?_
  rintro e w' ⟨hb, vf, rfl, hP⟩
  rw [hr] at hP ⊢
  obtain ⟨a, c, rfl⟩ : ∃ a c, vf = .slice a p.length c := by obtain ⟨_, h1, _⟩ := hP; exact SlAt.form h1
  exact ⟨hb, a, c, rfl, hP.weak fun _ _ _ h => h⟩
theorem ProgAt.bel {w w' : World} {X : Nat → Prop} {v : Value} {l : List M.Fn} (h : ProgAt w X v l) (hb : Below w.heap.size w w') : ProgAt w' X v l := h.keep (Below.keepX hb)
end Go.Proofs.YtkpmpnebmkeocaaGreatDoor
end
