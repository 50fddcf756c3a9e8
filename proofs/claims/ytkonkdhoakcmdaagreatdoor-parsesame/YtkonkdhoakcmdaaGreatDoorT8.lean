/-
  The walk of the document's reader's args (proteanref02). Conditions: the state's; how many tokens there are.
-/
import Derived.Test.YtkonkdhoakcmdaaGreatDoorT7
import Derived.Test.YtkonkdhoakcmdaaGreatDoorR3
set_option linter.unusedVariables false
set_option linter.unusedSimpArgs false
namespace Go.Proofs.YtkonkdhoakcmdaaGreatDoor
open Go.RowKit


/-- the reader's args -/
def argsR (r : RSt) : M.Res (List M.Opd) := bindR r fun S => M.bnd (M.take S (M.ch 40)) fun S1 _ => M.list (M.ch 41) M.itemOp S1 []
theorem argsR_eq (r : RSt) : argsR r = bindR (needR r (M.ch 40)) fun S1 => M.list (M.ch 41) M.itemOp S1 [] := by
  cases r with
  | error f => rfl
  | ok S =>
    simp only [argsR, needR, bindR]
    cases M.take S (M.ch 40) with
    | error e => rfl
    | ok p => rfl
theorem argsR_loop {r : RSt} (h : isR r (M.ch 41) = false) : bindR r (fun S1 => M.list (M.ch 41) M.itemOp S1 []) = bindR r fun S => M.bnd (M.itemOp S []) (TL (M.ch 41) M.itemOp) := by
  cases r with
  | error f => rfl
  | ok S => exact list_eq h
theorem args_short {S S1 : M.St} (h : stR (operandR (.ok S)) = .ok S1) : S1.rest.length < S.rest.length := by
  have e : operandR (.ok S) = M.operand S := rfl
  rw [e] at h
  cases hn : M.operand S with
  | error e => rw [hn] at h; cases h
  | ok p => rw [hn] at h; cases h; exact M.operand_short hn
theorem args_item {S : M.St} {l : List M.Opd} {x : M.Opd} {last : ByteArray} (hs : ∀ S' x', operandR (.ok S) = .ok (S', x') → x = x') :
    bindR (.ok S) (fun S => M.bnd (M.itemOp S l) (TL last M.itemOp)) = bindR (stR (operandR (.ok S))) fun S1 => TL last M.itemOp S1 (l ++ [x]) := by
  have e : operandR (.ok S) = M.operand S := rfl
  rw [e] at hs ⊢
  show M.bnd (M.itemOp S l) _ = _
  unfold M.itemOp
  cases hn : M.operand S with
  | error e => rfl
  | ok p => obtain rfl := hs p.1 p.2 hn; rfl
theorem args_it_short (S : M.St) (b : List M.Opd) (S' : M.St) (b' : List M.Opd) (h : M.itemOp S b = .ok (S', b')) : S'.rest.length < S.rest.length := by
  unfold M.itemOp at h
  obtain ⟨S1, x, h1, h2⟩ := M.bnd_ok h
  cases h2
  exact M.operand_short h1

/-- what args has in its hands in a round -/
structure ArIn (a : Option Addr) (cap : Nat) (ts : List M.Tok) (fin : Int) (d n : Nat) (w wr : World) (k : Nat) (v : Value) (r : RSt) (i : Nat) (c y : Int) (l : List M.Opd) : Prop where
  rs : RS ts fin d r i n c y
  box : wr.heap[w.heap.size]? = some (.cells #[.slice a ts.length cap, .int .i64 (i : Nat), .int .i64 fin, .int .i64 (n : Nat), .int .i64 c, .int .i64 y] 44 (0, 0))
  res : wr.heap[w.heap.size + 1]? = some (.cells #[.slice none 0 0, .int .i64 0, .int .i64 0, .int .i64 0, .int .i64 0, .int .i64 0] 44 (0, 0))
  own : wr.ownsRow (w.heap.size + 2) 61 3 v l.length (l.flatMap opCells)
  bel : Below w.heap.size w wr
  lt : mz r ≤ k
  len : l.length ≤ ts.length + 1
  len' : okR r = true → l.length ≤ i

set_option maxRecDepth 8000 in
set_option maxHeartbeats 3200000 in
theorem rargs_any (a : Option Addr) (cap : Nat) (ts : List M.Tok) (fin : Int) (d : Nat) (r : RSt) (i n : Nat) (c y : Int) (w : World) (h : RS ts fin d r i n c y) (hT : TokAt w (.slice a ts.length cap) ts) (hfew : ts.length ≤ 4398046511000) :
    Calls Tryz.prog 70 #[.agg #[.slice a ts.length cap, .int .i64 (i : Nat), .int .i64 fin, .int .i64 (n : Nat), .int .i64 c, .int .i64 y]] w fun e w' => Below w.heap.size w w' ∧ ∃ (i' : Nat) (c' y' : Int) (v : Value) (l : List M.Opd), e = .returned (.tuple #[.agg #[.slice a ts.length cap, .int .i64 (i' : Nat), .int .i64 fin, .int .i64 (n : Nat), .int .i64 c', .int .i64 y'], v]) ∧ RS ts fin d (stR (argsR r)) i' n c' y' ∧ OpsAt w' (Old w) v l ∧ ∀ S' x, argsR r = .ok (S', x) → l = x := by
  have hi := h.lt
  have hn2 := h.lim
  obtain ⟨i0, hi0, hz0, hz1, hz2⟩ := info_parts infoOpd
  have HR := hid (argsR_eq r)
  have own0 : (((w.alloc (.cells #[.slice a ts.length cap, .int .i64 (i : Nat), .int .i64 fin, .int .i64 (n : Nat), .int .i64 c, .int .i64 y] 44)).alloc (.cells #[.slice none 0 0, .int .i64 0, .int .i64 0, .int .i64 0, .int .i64 0, .int .i64 0] 44)).alloc (.cells #[] 61)).ownsRow (w.heap.size + 2) 61 3 (.slice (some ⟨w.heap.size + 2, 0, none⟩) 0 0) 0 [] := by
    have := World.ownsRow_made (base := w.heap.size + 2) (e := 61) (size := 3) ((w.alloc (.cells #[.slice a ts.length cap, .int .i64 (i : Nat), .int .i64 fin, .int .i64 (n : Nat), .int .i64 c, .int .i64 y] 44)).alloc (.cells #[.slice none 0 0, .int .i64 0, .int .i64 0, .int .i64 0, .int .i64 0, .int .i64 0] 44)) #[] 0 (by simp) (by unfold maxLen; omega) rfl
    simp only [World.size_alloc] at this
    exact this
  go_enter Tryz.func70, Tryz.ntmps70
  go_wp2_with fail
  refine (rneed_any _ _ _ _ _ _ _ _ _ _ _ h (hT.keep (below_three _ _ _)) (M.ch 40) (by decide) (by decide)).mono ?_
  rintro e w1 ⟨hb, i1, c1, y1, rfl, h1⟩
  obtain ⟨hP1, hQ1, hE1, hbw1⟩ := three_new hb
  have own1 := ownsRow_below own0 hb
  clear own0 hb hE1
  obtain ⟨x0, x1, x2, x3, x4, x5, xf⟩ := cells6 hP1
  go_wp2_with fail
  have hP2 := set6 hP1 (.slice a ts.length cap) (.int .i64 (i1 : Nat)) (.int .i64 fin) (.int .i64 (n : Nat)) (.int .i64 c1) (.int .i64 y1)
  have hQ2 := kset6 hQ1 (show w.heap.size + 1 ≠ w.heap.size by omega) (.slice a ts.length cap) (.int .i64 (i1 : Nat)) (.int .i64 fin) (.int .i64 (n : Nat)) (.int .i64 c1) (.int .i64 y1)
  have hbw2 := bset6 hbw1 (Nat.le_refl w.heap.size) (.slice a ts.length cap) (.int .i64 (i1 : Nat)) (.int .i64 fin) (.int .i64 (n : Nat)) (.int .i64 c1) (.int .i64 y1)
  have own2 := oset6 own1 (show w.heap.size < w.heap.size + 2 by omega) (.slice a ts.length cap) (.int .i64 (i1 : Nat)) (.int .i64 fin) (.int .i64 (n : Nat)) (.int .i64 c1) (.int .i64 y1)
  generalize hW2 : ((((((w1.setCell ⟨w.heap.size, 0, none⟩ (.slice a ts.length cap)).setCell ⟨w.heap.size, 1, none⟩ (.int .i64 (i1 : Nat))).setCell ⟨w.heap.size, 2, none⟩ (.int .i64 fin)).setCell ⟨w.heap.size, 3, none⟩ (.int .i64 (n : Nat))).setCell ⟨w.heap.size, 4, none⟩ (.int .i64 c1)).setCell ⟨w.heap.size, 5, none⟩ (.int .i64 y1)) = w2 at hP2 hQ2 hbw2 own2 ⊢
  clear hW2 x0 x1 x2 x3 x4 x5 xf hP1 hQ1 hbw1 own1
  refine (ris_any _ _ _ _ _ _ _ _ _ _ _ h1 (hT.keep hbw2) (M.ch 41) (by decide) (by decide)).mono ?_
  rintro e w3 ⟨rfl, hb3⟩
  have hbw3 := hbw2.trans (hb3.mono hbw2.size)
  have hP3 := kept hb3 hP2
  have hQ3 := kept hb3 hQ2
  have own3 := ownsRow_below own2 hb3
  clear hP2 hQ2 own2 hb3 hbw2
  obtain ⟨x0, x1, x2, x3, x4, x5, xf⟩ := cells6 hP3
  cases hk : isR (needR r (M.ch 40)) (M.ch 41)
  · have HL := hid (argsR_loop hk)
    go_wp2_with fail
    clear x0 x1 x2 x3 x4 x5 xf
    go_loopg [4] (mz (needR r (M.ch 40))) (fun k v wr => ∃ rr ii cc yy l, ArIn a cap ts fin d n w wr k v rr ii cc yy l ∧ Hid (argsR r = bindR rr fun S => M.bnd (M.itemOp S l) (TL (M.ch 41) M.itemOp)))
    case atStart => exact ⟨needR r (M.ch 40), i1, c1, y1, [], ⟨h1, hP3, hQ3, own3, hbw3, Nat.le_refl _, Nat.zero_le _, fun _ => Nat.zero_le _⟩, by unfold Hid; rw [HR.out, HL.out]⟩
    case round =>
      obtain ⟨rr, ii, cc, yy, l, ⟨rs, hP, hQ, own, hbw, hlt, hlen, hlen'⟩, HT⟩ := hrel
      clear hP3 hQ3 own3 hbw3 HL
      have hil := rs.lt
      obtain ⟨x0, x1, x2, x3, x4, x5, xf⟩ := cells6 hP
      go_wp2_with fail
      refine (rok_any _ _ _ _ _ _ _ _ _ _ _ _ rs).mono ?_
      rintro e w3 ⟨rfl, hb3⟩
      have hbw3 := hbw.trans (hb3.mono hbw.size)
      have hP3 := kept hb3 hP
      have hQ3 := kept hb3 hQ
      have own3 := ownsRow_below own hb3
      clear x0 x1 x2 x3 x4 x5 xf hP hQ own hb3
      obtain ⟨x0, x1, x2, x3, x4, x5, xf⟩ := cells6 hP3
      cases hok : okR rr
      · obtain ⟨f, rfl⟩ := okR_no hok
        obtain ⟨q0, q1, q2, q3, q4, q5, qf⟩ := cells6 hQ3
        obtain ⟨av, cv, rfl⟩ := own_form own3
        go_wp2_with fail
        refine bodyPost_ret (v := .tuple #[.agg #[.slice a ts.length cap, .int .i64 (ii : Nat), .int .i64 fin, .int .i64 (n : Nat), .int .i64 cc, .int .i64 yy], .slice av l.length cv]) (by simp [results, Tryz.results70, go_sem, q0, q1, q2, q3, q4, q5]) rfl ⟨?_, ii, cc, yy, _, l, rfl, by rw [HT.out]; exact rs, ?_, fun S' x e => by rw [HT.out] at e; cases e⟩
        · exact bset6 hbw3 (by omega) _ _ _ _ _ _
        · exact SlAt.of_owns (oset6 own3 (by omega) _ _ _ _ _ _) (fun b hb hx => by have : b < w.heap.size := hx; omega) (by omega)
      · obtain ⟨S, rfl⟩ := okR_yes hok
        have hl1 := hlen' hok
        cases gk with
        | zero => simp [mz] at hlt
        | succ k =>
          go_wp2_with fail
          refine (roperand_any _ _ _ _ _ _ _ _ _ _ _ rs (hT.keep hbw3)).mono ?_
          rintro e w4 ⟨hb4, i4, c4, y4, o, rfl, h4, hs⟩
          have hbw4 := hbw3.trans (hb4.mono hbw3.size)
          have hP4 := kept hb4 hP3
          have hQ4 := kept hb4 hQ3
          have own4 := ownsRow_below own3 hb4
          have hz4 := hbw4.size
          have hg4 := hlt_ hQ4
          have hi4 := h4.lt
          clear x0 x1 x2 x3 x4 x5 xf hP3 hQ3 own3 hb4
          have HT2 : Hid (argsR r = bindR (stR (operandR (.ok S))) fun S1 => TL (M.ch 41) M.itemOp S1 (l ++ [o])) := by
            unfold Hid; rw [HT.out]; exact args_item hs
          have hshort : ∀ S1, stR (operandR (.ok S)) = .ok S1 → S1.rest.length < S.rest.length := fun _ => args_short
          have hm63 : l.length + 1 ≤ maxLen := by unfold maxLen; omega
          have hmby : (l.length + 1) * 32 ≤ 140737488355328 := by omega
          have hob := fun k' hk' => (own4.lt k' hk')
          have hNX : (((w4.alloc (.cells #[.slice a ts.length cap, .int .i64 (i4 : Nat), .int .i64 fin, .int .i64 (n : Nat), .int .i64 c4, .int .i64 y4] 44)).alloc (.cells #[.int .i64 o.k, .int .i64 o.n, .string o.s] 61)).alloc (.cells #[.int .i64 o.k, .int .i64 o.n, .string o.s] 61)).heap[w4.heap.size]? = some (.cells #[.slice a ts.length cap, .int .i64 (i4 : Nat), .int .i64 fin, .int .i64 (n : Nat), .int .i64 c4, .int .i64 y4] 44) := by
            exact (Below.heap_alloc _ _ _ (by simp; omega)).trans ((Below.heap_alloc _ _ _ (by simp)).trans (heap_alloc_new w4 _))
          have hTM : (((w4.alloc (.cells #[.slice a ts.length cap, .int .i64 (i4 : Nat), .int .i64 fin, .int .i64 (n : Nat), .int .i64 c4, .int .i64 y4] 44)).alloc (.cells #[.int .i64 o.k, .int .i64 o.n, .string o.s] 61)).alloc (.cells #[.int .i64 o.k, .int .i64 o.n, .string o.s] 61)).heap[w4.heap.size + 2]? = some (.cells #[.int .i64 o.k, .int .i64 o.n, .string o.s] 61) := by
            have := heap_alloc_new ((w4.alloc (.cells #[.slice a ts.length cap, .int .i64 (i4 : Nat), .int .i64 fin, .int .i64 (n : Nat), .int .i64 c4, .int .i64 y4] 44)).alloc (.cells #[.int .i64 o.k, .int .i64 o.n, .string o.s] 61)) (.cells #[.int .i64 o.k, .int .i64 o.n, .string o.s] 61); simp only [World.size_alloc] at this; exact this
          have hWz : (((w4.alloc (.cells #[.slice a ts.length cap, .int .i64 (i4 : Nat), .int .i64 fin, .int .i64 (n : Nat), .int .i64 c4, .int .i64 y4] 44)).alloc (.cells #[.int .i64 o.k, .int .i64 o.n, .string o.s] 61)).alloc (.cells #[.int .i64 o.k, .int .i64 o.n, .string o.s] 61)).heap.size = w4.heap.size + 3 := by simp only [World.size_alloc]
          have hbW : Below w4.heap.size w4 (((w4.alloc (.cells #[.slice a ts.length cap, .int .i64 (i4 : Nat), .int .i64 fin, .int .i64 (n : Nat), .int .i64 c4, .int .i64 y4] 44)).alloc (.cells #[.int .i64 o.k, .int .i64 o.n, .string o.s] 61)).alloc (.cells #[.int .i64 o.k, .int .i64 o.n, .string o.s] 61)) := below_three _ _ _
          go_wp2_with (at_builtin; refine wpList_append_lies _ rfl _ _ 57 rfl (w.heap.size + 2) 61 i0 _ 3 32 Tryz.underlying57 hi0 hz0 hz1 hz2 rfl (by decide) _ _ _ rfl (ownsRow_below own4 hbW) ⟨w4.heap.size + 2, 0, none⟩ 1 1 [.int .i64 o.k, .int .i64 o.n, .string o.s] rfl rfl (World.news_of_block (cs := #[.int .i64 o.k, .int .i64 o.n, .string o.s]) (t := 61) (fr := (0, 0)) hTM) (by simp [Value.oneCell']) Nat.one_pos hm63 hmby (by rw [hWz]; omega) (w4.heap.size + 3) hWz ?_)
          intro gg cap' w5 hown5 hgrow hat5 hlt5
          have hP5 := kgrow hgrow (kept hbW hP4) (fun k' hk' => by have := hob k' hk'; omega)
          have hQ5 := kgrow hgrow (kept hbW hQ4) (fun k' hk' => by have := hob k' hk'; omega)
          have hX5 := kgrow hgrow hNX (fun k' hk' => by have := hob k' hk'; omega)
          have hbw5 : Below w.heap.size w w5 := bgrow (hbw4.trans (hbW.mono hz4)) hgrow (fun k' hk' => by have := hob k' hk'; omega) (by rw [hWz]; omega)
          have own5 : w5.ownsRow (w.heap.size + 2) 61 3 (.slice (some ⟨gg, 0, none⟩) (l.length + 1) cap') (l ++ [o]).length ((l ++ [o]).flatMap opCells) := by
            rw [List.flatMap_append, List.length_append]; exact hown5
          obtain ⟨x0, x1, x2, x3, x4, x5, xf⟩ := cells6 hX5
          obtain ⟨q0, q1, q2, q3, q4, q5, qf⟩ := cells6 hP5
          clear hNX hTM hbW hP4 hQ4 own4 hown5 hat5
          go_wp2_with fail
          have hP6 := set6 hP5 (.slice a ts.length cap) (.int .i64 (i4 : Nat)) (.int .i64 fin) (.int .i64 (n : Nat)) (.int .i64 c4) (.int .i64 y4)
          have hQ6 := kset6 hQ5 (show w.heap.size + 1 ≠ w.heap.size by omega) (.slice a ts.length cap) (.int .i64 (i4 : Nat)) (.int .i64 fin) (.int .i64 (n : Nat)) (.int .i64 c4) (.int .i64 y4)
          have hbw6 := bset6 hbw5 (Nat.le_refl w.heap.size) (.slice a ts.length cap) (.int .i64 (i4 : Nat)) (.int .i64 fin) (.int .i64 (n : Nat)) (.int .i64 c4) (.int .i64 y4)
          have own6 := oset6 own5 (show w.heap.size < w.heap.size + 2 by omega) (.slice a ts.length cap) (.int .i64 (i4 : Nat)) (.int .i64 fin) (.int .i64 (n : Nat)) (.int .i64 c4) (.int .i64 y4)
          generalize hW6 : ((((((w5.setCell ⟨w.heap.size, 0, none⟩ (.slice a ts.length cap)).setCell ⟨w.heap.size, 1, none⟩ (.int .i64 (i4 : Nat))).setCell ⟨w.heap.size, 2, none⟩ (.int .i64 fin)).setCell ⟨w.heap.size, 3, none⟩ (.int .i64 (n : Nat))).setCell ⟨w.heap.size, 4, none⟩ (.int .i64 c4)).setCell ⟨w.heap.size, 5, none⟩ (.int .i64 y4)) = w6 at hP6 hQ6 hbw6 own6 ⊢
          clear hW6 x0 x1 x2 x3 x4 x5 xf q0 q1 q2 q3 q4 q5 qf hP5 hQ5 hbw5 own5 hX5 hgrow hlt5
          refine (ris_any _ _ _ _ _ _ _ _ _ _ _ h4 (hT.keep hbw6) (M.ch 41) (by decide) (by decide)).mono ?_
          rintro e w7 ⟨rfl, hb7⟩
          have hbw7 := hbw6.trans (hb7.mono hbw6.size)
          have hP7 := kept hb7 hP6
          have hQ7 := kept hb7 hQ6
          have own7 := ownsRow_below own6 hb7
          clear hP6 hQ6 own6 hb7
          obtain ⟨x0, x1, x2, x3, x4, x5, xf⟩ := cells6 hP7
          cases hk2 : isR (stR (operandR (.ok S))) (M.ch 41)
          · have HT3 : Hid (argsR r = bindR (needR (stR (operandR (.ok S))) (M.ch 44)) fun S => M.bnd (M.itemOp S (l ++ [o])) (TL (M.ch 41) M.itemOp)) := by
              unfold Hid; rw [HT2.out]; exact TL_step args_it_short hk2
            go_wp2_with fail
            refine (rneed_any _ _ _ _ _ _ _ _ _ _ _ h4 (hT.keep hbw7) (M.ch 44) (by decide) (by decide)).mono ?_
            rintro e w8 ⟨hb8, i8, c8, y8, rfl, h8⟩
            have hbw8 := hbw7.trans (hb8.mono hbw7.size)
            have hP8 := kept hb8 hP7
            have hQ8 := kept hb8 hQ7
            have own8 := ownsRow_below own7 hb8
            clear x0 x1 x2 x3 x4 x5 xf hP7 hQ7 own7 hb8
            obtain ⟨x0, x1, x2, x3, x4, x5, xf⟩ := cells6 hP8
            go_wp2_with fail
            have hmz := mz_need (t := M.ch 44) (by decide) hshort
            have hkk : S.rest.length ≤ k := by simp only [mz] at hlt; omega
            go_roundg k
            case measure => omega
            case rel =>
              refine ⟨needR (stR (operandR (.ok S))) (M.ch 44), i8, c8, y8, l ++ [o], ⟨h8, set6 hP8 _ _ _ _ _ _, kset6 hQ8 (by omega) _ _ _ _ _ _, oset6 own8 (by omega) _ _ _ _ _ _, bset6 hbw8 (Nat.le_refl _) _ _ _ _ _ _, by omega, by simp; omega, fun ho => ?_⟩, HT3⟩
              obtain ⟨S8, e8⟩ := okR_yes ho
              obtain ⟨S1, e1, l8⟩ := hmz.2 S8 e8
              have l1 := hshort S1 e1
              rw [e8] at h8
              rw [e1] at h4
              have j8 := h8.idx.1
              have j4 := h4.idx.1
              have j0 := rs.idx.1
              simp only [List.length_append, List.length_cons, List.length_nil]
              omega
          · obtain ⟨S1, e1⟩ := isR_ok hk2
            have HT3 : Hid (argsR r = .ok (S1.adv, l ++ [o])) := by
              unfold Hid; rw [HT2.out, e1]; rw [e1] at hk2; exact TL_last hk2 (by decide)
            have HN : Hid (needR (stR (operandR (.ok S))) (M.ch 41) = .ok S1.adv) := by
              unfold Hid; rw [e1] at hk2 ⊢; exact needR_yes hk2
            go_wp2_with fail
            refine (rneed_any _ _ _ _ _ _ _ _ _ _ _ h4 (hT.keep hbw7) (M.ch 41) (by decide) (by decide)).mono ?_
            rintro e w8 ⟨hb8, i8, c8, y8, rfl, h8⟩
            have hbw8 := hbw7.trans (hb8.mono hbw7.size)
            have hQ8 := kept hb8 hQ7
            have own8 := ownsRow_below own7 hb8
            clear x0 x1 x2 x3 x4 x5 xf hP7 hQ7 own7 hb8
            obtain ⟨q0, q1, q2, q3, q4, q5, qf⟩ := cells6 hQ8
            go_wp2_with fail
            refine bodyPost_ret (v := .tuple #[.agg #[.slice a ts.length cap, .int .i64 (i8 : Nat), .int .i64 fin, .int .i64 (n : Nat), .int .i64 c8, .int .i64 y8], .slice (some ⟨gg, 0, none⟩) (l.length + 1) cap']) (by simp [results, Tryz.results70, go_sem, q0, q1, q2, q3, q4, q5]) rfl ⟨?_, i8, c8, y8, _, l ++ [o], rfl, ?_, ?_, fun S' x e => by rw [HT3.out] at e; cases e; rfl⟩
            · exact bset6 hbw8 (by omega) _ _ _ _ _ _
            · rw [HT3.out]; rw [HN.out] at h8; exact h8
            · exact SlAt.of_owns (oset6 own8 (by omega) _ _ _ _ _ _) (fun b hb hx => by have : b < w.heap.size := hx; omega) (by simp; omega)
  · obtain ⟨S1, e1⟩ := isR_ok hk
    have HT3 : Hid (argsR r = .ok (S1.adv, [])) := by
      unfold Hid; rw [HR.out, e1]; rw [e1] at hk; exact list_none hk
    have HN : Hid (needR (needR r (M.ch 40)) (M.ch 41) = .ok S1.adv) := by
      unfold Hid; rw [e1] at hk ⊢; exact needR_yes hk
    go_wp2_with fail
    refine (rneed_any _ _ _ _ _ _ _ _ _ _ _ h1 (hT.keep hbw3) (M.ch 41) (by decide) (by decide)).mono ?_
    rintro e w8 ⟨hb8, i8, c8, y8, rfl, h8⟩
    have hbw8 := hbw3.trans (hb8.mono hbw3.size)
    have hQ8 := kept hb8 hQ3
    have own8 := ownsRow_below own3 hb8
    clear x0 x1 x2 x3 x4 x5 xf hP3 hQ3 own3 hb8
    obtain ⟨q0, q1, q2, q3, q4, q5, qf⟩ := cells6 hQ8
    go_wp2_with fail
    refine bodyPost_ret (v := .tuple #[.agg #[.slice a ts.length cap, .int .i64 (i8 : Nat), .int .i64 fin, .int .i64 (n : Nat), .int .i64 c8, .int .i64 y8], .slice (some ⟨w.heap.size + 2, 0, none⟩) 0 0]) (by simp [results, Tryz.results70, go_sem, q0, q1, q2, q3, q4, q5]) rfl ⟨?_, i8, c8, y8, _, [], rfl, ?_, ?_, fun S' x e => by rw [HT3.out] at e; cases e; rfl⟩
    · exact bset6 hbw8 (by omega) _ _ _ _ _ _
    · rw [HT3.out]; rw [HN.out] at h8; exact h8
    · exact SlAt.of_owns (oset6 own8 (by omega) _ _ _ _ _ _) (fun b hb hx => by have : b < w.heap.size := hx; omega) (Nat.zero_le _)
end Go.Proofs.YtkonkdhoakcmdaaGreatDoor
