/-
  Lists in brackets, as mathematics; and the walk of the document's reader's names (proteanref02). Conditions: the state's; how many tokens there are.
-/
import Derived.Test.YtkonkdhoakcmdaaGreatDoorT6
import Derived.Test.YtkonkdhoakcmdaaGreatDoorR6
import Derived.Test.YtkonkdhoakcmdaaGreatDoorS2
import Derived.Deep.LoopGhost
set_option linter.unusedVariables false
set_option linter.unusedSimpArgs false
namespace Go.Proofs.YtkonkdhoakcmdaaGreatDoor
open Go.RowKit

/-- behind an item -/
def TL {β : Type} (last : ByteArray) (item : M.St → β → M.Res β) (S1 : M.St) (b1 : β) : M.Res β :=
  M.bnd (M.more item S1.rest.length S1 b1) fun S2 b2 => M.bnd (M.take S2 last) fun S3 _ => .ok (S3, b2)
theorem list_eq {β : Type} {last : ByteArray} {item : M.St → β → M.Res β} {S : M.St} {b : β} (h : S.at last = false) : M.list last item S b = M.bnd (item S b) (TL last item) := by
  unfold M.list
  rw [if_neg (by simp [h])]; rfl
theorem list_none {β : Type} {last : ByteArray} {item : M.St → β → M.Res β} {S : M.St} {b : β} (h : S.at last = true) : M.list last item S b = .ok (S.adv, b) := by
  unfold M.list
  rw [if_pos h]
theorem more_no {β : Type} (item : M.St → β → M.Res β) (k : Nat) (S : M.St) (b : β) (h : S.at (M.ch 44) = false) : M.more item k S b = .ok (S, b) := by
  cases k with
  | zero => rfl
  | succ k => simp [M.more, h]
theorem more_fuel {β : Type} (item : M.St → β → M.Res β) (hs : ∀ S b S' b', item S b = .ok (S', b') → S'.rest.length < S.rest.length) : ∀ (m : Nat) (S : M.St) (b : β) (k : Nat), S.rest.length ≤ m → S.rest.length ≤ k → M.more item k S b = M.more item S.rest.length S b
  | m, S, b, k, hm, hk => by
    cases h : S.at (M.ch 44)
    · rw [more_no _ _ _ _ h, more_no _ _ _ _ h]
    · have hne := M.at_ne h (by decide)
      have hsh := M.adv_short hne
      have hl : S.rest.length = S.adv.rest.length + 1 := by
        obtain ⟨rest, fin, n, d⟩ := S
        cases rest with
        | nil => exact absurd rfl hne
        | cons x l => rfl
      cases m with
      | zero => omega
      | succ m =>
        cases k with
        | zero => omega
        | succ k =>
          rw [hl]
          simp only [M.more, h, if_true]
          cases hit : item S.adv b with
          | error e => rfl
          | ok p =>
            obtain ⟨S2, b2⟩ := p
            have := hs _ _ _ _ hit
            show M.more item k S2 b2 = M.more item S.adv.rest.length S2 b2
            rw [more_fuel item hs m S2 b2 k (by omega) (by omega), more_fuel item hs m S2 b2 S.adv.rest.length (by omega) (by omega)]
theorem at_two {S : M.St} {s t : ByteArray} (h : S.at s = true) (ht : ¬ s = t) : S.at t = false := by
  have e : S.now.t = s := of_decide_eq_true h
  exact decide_eq_false (by rw [e]; exact ht)
theorem TL_last {β : Type} {last : ByteArray} {item : M.St → β → M.Res β} {S : M.St} {b : β} (h : S.at last = true) (hl : ¬ last = M.ch 44) : TL last item S b = .ok (S.adv, b) := by
  unfold TL
  rw [more_no _ _ _ _ (at_two h hl)]
  simp [M.bnd, M.take, h]
theorem TL_step {β : Type} {last : ByteArray} {item : M.St → β → M.Res β} (hs : ∀ S b S' b', item S b = .ok (S', b') → S'.rest.length < S.rest.length) {r : RSt} {b : β} (h : isR r last = false) :
    bindR r (fun S => TL last item S b) = bindR (needR r (M.ch 44)) fun S => M.bnd (item S b) (TL last item) := by
  cases r with
  | error f => rfl
  | ok S =>
    have hl : S.at last = false := h
    cases hc : S.at (M.ch 44)
    · have : needR (.ok S) (M.ch 44) = failR (.ok S) 20 := needR_no hc
      rw [this]
      show TL last item S b = _
      unfold TL
      rw [more_no _ _ _ _ hc]
      simp [M.bnd, M.take, hl, failR, bindR, M.fail]
    · have : needR (.ok S) (M.ch 44) = .ok S.adv := needR_yes hc
      rw [this]
      show TL last item S b = M.bnd (item S.adv b) (TL last item)
      have hne := M.at_ne hc (by decide)
      have hl : S.rest.length = S.adv.rest.length + 1 := by
        obtain ⟨rest, fin, n, d⟩ := S
        cases rest with
        | nil => exact absurd rfl hne
        | cons x l => rfl
      unfold TL
      rw [hl]
      simp only [M.more, hc, if_true]
      cases hit : item S.adv b with
      | error e => rfl
      | ok p =>
        obtain ⟨S2, b2⟩ := p
        have := hs _ _ _ _ hit
        show M.bnd (M.more item S.adv.rest.length S2 b2) _ = M.bnd (M.more item S2.rest.length S2 b2) _
        rw [more_fuel item hs S2.rest.length S2 b2 S.adv.rest.length (Nat.le_refl _) (by omega)]

/-- how far it may go on -/
def mz (r : RSt) : Nat := match r with | .ok S => S.rest.length + 1 | .error _ => 0
theorem RS.idx {ts : List M.Tok} {fin : Int} {d : Nat} {i n : Nat} {c y : Int} {S : M.St} (h : RS ts fin d (.ok S) i n c y) : S.rest.length = ts.length - i ∧ S.d = d ∧ S.n = n := by
  obtain ⟨_, _, rfl⟩ := h.good S rfl
  exact ⟨by simp, rfl, rfl⟩

theorem set6 {w : World} {g : Nat} {T : TypeId} {v0 v1 v2 v3 v4 v5 : Value} (h : w.heap[g]? = some (.cells #[v0, v1, v2, v3, v4, v5] T (0, 0))) (u0 u1 u2 u3 u4 u5 : Value) :
    (((((((w.setCell ⟨g, 0, none⟩ u0).setCell ⟨g, 1, none⟩ u1).setCell ⟨g, 2, none⟩ u2).setCell ⟨g, 3, none⟩ u3).setCell ⟨g, 4, none⟩ u4).setCell ⟨g, 5, none⟩ u5)).heap[g]? = some (.cells #[u0, u1, u2, u3, u4, u5] T (0, 0)) := by
  have h0 := heap_setCell_same w g 0 _ _ u0 h
  have h1 := heap_setCell_same _ g 1 _ _ u1 h0
  have h2 := heap_setCell_same _ g 2 _ _ u2 h1
  have h3 := heap_setCell_same _ g 3 _ _ u3 h2
  have h4 := heap_setCell_same _ g 4 _ _ u4 h3
  have h5 := heap_setCell_same _ g 5 _ _ u5 h4
  exact h5
theorem kset6 {w : World} {g k : Nat} {o : Obj} (h : w.heap[k]? = some o) (hne : k ≠ g) (u0 u1 u2 u3 u4 u5 : Value) :
    (((((((w.setCell ⟨g, 0, none⟩ u0).setCell ⟨g, 1, none⟩ u1).setCell ⟨g, 2, none⟩ u2).setCell ⟨g, 3, none⟩ u3).setCell ⟨g, 4, none⟩ u4).setCell ⟨g, 5, none⟩ u5)).heap[k]? = some o :=
  kset (kset (kset (kset (kset (kset h hne _) hne _) hne _) hne _) hne _) hne _
theorem bset6 {B g : Nat} {a w : World} (h : Below B a w) (hg : B ≤ g) (u0 u1 u2 u3 u4 u5 : Value) :
    Below B a ((((((w.setCell ⟨g, 0, none⟩ u0).setCell ⟨g, 1, none⟩ u1).setCell ⟨g, 2, none⟩ u2).setCell ⟨g, 3, none⟩ u3).setCell ⟨g, 4, none⟩ u4).setCell ⟨g, 5, none⟩ u5) :=
  (((((h.setCell hg _).setCell hg _).setCell hg _).setCell hg _).setCell hg _).setCell hg _
theorem oset6 {w : World} {base g z n : Nat} {e : TypeId} {v : Value} {xs : List Value} (h : w.ownsRow base e z v n xs) (hg : g < base) (u0 u1 u2 u3 u4 u5 : Value) :
    ((((((w.setCell ⟨g, 0, none⟩ u0).setCell ⟨g, 1, none⟩ u1).setCell ⟨g, 2, none⟩ u2).setCell ⟨g, 3, none⟩ u3).setCell ⟨g, 4, none⟩ u4).setCell ⟨g, 5, none⟩ u5).ownsRow base e z v n xs :=
  ownsRow_setCell_below (ownsRow_setCell_below (ownsRow_setCell_below (ownsRow_setCell_below (ownsRow_setCell_below (ownsRow_setCell_below h hg _) hg _) hg _) hg _) hg _) hg _
theorem zset6 (w : World) (g : Nat) (u0 u1 u2 u3 u4 u5 : Value) :
    ((((((w.setCell ⟨g, 0, none⟩ u0).setCell ⟨g, 1, none⟩ u1).setCell ⟨g, 2, none⟩ u2).setCell ⟨g, 3, none⟩ u3).setCell ⟨g, 4, none⟩ u4).setCell ⟨g, 5, none⟩ u5).heap.size = w.heap.size := by simp


theorem okR_no {r : RSt} (h : okR r = false) : ∃ f, r = .error f := by
  cases r with
  | error f => exact ⟨f, rfl⟩
  | ok S => cases h
theorem okR_yes {r : RSt} (h : okR r = true) : ∃ S, r = .ok S := by
  cases r with
  | error f => cases h
  | ok S => exact ⟨S, rfl⟩
theorem kgrow {W W' : World} {g : Nat} {o : Obj} {row : Option Nat} (hg : W.grownBy W' row) (h : W.heap[g]? = some o) (hne : ∀ k, row = some k → g ≠ k) : W'.heap[g]? = some o :=
  (hg.block g (hlt_ h) fun e => hne g e.symm rfl).trans h
theorem bgrow {B : Nat} {a W W' : World} {row : Option Nat} (h : Below B a W) (hg : W.grownBy W' row) (hr : ∀ k, row = some k → B ≤ k) (hB : B ≤ W.heap.size) : Below B a W' :=
  ⟨hg.os.trans h.os, hg.tape.trans h.tape, hg.output.trans h.output, Nat.le_trans h.size hg.size, fun k hk => by
    rw [hg.block k (by omega) (fun e => by have := hr k e.symm; omega)]; exact h.block k hk⟩
theorem mz_need {rn : RSt} {m : Nat} {t : ByteArray} (ht : t ≠ M.em) (h : ∀ S1, rn = .ok S1 → S1.rest.length < m) : mz (needR rn t) ≤ m ∧ ∀ S', needR rn t = .ok S' → ∃ S1, rn = .ok S1 ∧ S'.rest.length < S1.rest.length := by
  cases rn with
  | error f => exact ⟨Nat.zero_le _, fun S' e => by cases e⟩
  | ok S1 =>
    have h1 := h S1 rfl
    cases hc : S1.at t
    · have e1 : needR (.ok S1) t = failR (.ok S1) 20 := needR_no hc
      rw [e1]
      exact ⟨Nat.zero_le _, fun S' e => by cases e⟩
    · have e1 : needR (.ok S1) t = .ok S1.adv := needR_yes hc
      have hsh := M.adv_short (M.at_ne hc ht)
      rw [e1]
      refine ⟨by show S1.adv.rest.length + 1 ≤ m; omega, fun S' e => ⟨S1, rfl, by cases e; exact hsh⟩⟩


/-- the reader's names -/
def namesR (r : RSt) : M.Res (List ByteArray) := bindR r fun S => M.bnd (M.take S (M.ch 40)) fun S1 _ => M.list (M.ch 41) M.itemName S1 []
theorem namesR_eq (r : RSt) : namesR r = bindR (needR r (M.ch 40)) fun S1 => M.list (M.ch 41) M.itemName S1 [] := by
  cases r with
  | error f => rfl
  | ok S =>
    simp only [namesR, needR, bindR]
    cases M.take S (M.ch 40) with
    | error e => rfl
    | ok p => rfl
theorem namesR_loop {r : RSt} (h : isR r (M.ch 41) = false) : bindR r (fun S1 => M.list (M.ch 41) M.itemName S1 []) = bindR r fun S => M.bnd (M.itemName S []) (TL (M.ch 41) M.itemName) := by
  cases r with
  | error f => rfl
  | ok S => exact list_eq h
theorem names_short {S S1 : M.St} (h : stR (nameR (.ok S)) = .ok S1) : S1.rest.length < S.rest.length := by
  have e : nameR (.ok S) = M.name S := rfl
  rw [e] at h
  cases hn : M.name S with
  | error e => rw [hn] at h; cases h
  | ok p => rw [hn] at h; cases h; exact M.name_short hn
theorem names_item {S : M.St} {l : List ByteArray} {x : ByteArray} {last : ByteArray} (hs : ∀ S' x', nameR (.ok S) = .ok (S', x') → x = x') :
    bindR (.ok S) (fun S => M.bnd (M.itemName S l) (TL last M.itemName)) = bindR (stR (nameR (.ok S))) fun S1 => TL last M.itemName S1 (l ++ [x]) := by
  have e : nameR (.ok S) = M.name S := rfl
  rw [e] at hs ⊢
  show M.bnd (M.itemName S l) _ = _
  unfold M.itemName
  cases hn : M.name S with
  | error e => rfl
  | ok p => obtain rfl := hs p.1 p.2 hn; rfl
theorem names_it_short (S : M.St) (b : List ByteArray) (S' : M.St) (b' : List ByteArray) (h : M.itemName S b = .ok (S', b')) : S'.rest.length < S.rest.length := by
  unfold M.itemName at h
  obtain ⟨S1, x, h1, h2⟩ := M.bnd_ok h
  cases h2
  exact M.name_short h1

/-- what names has in its hands in a round -/
structure NmIn (a : Option Addr) (cap : Nat) (ts : List M.Tok) (fin : Int) (d n : Nat) (w wr : World) (k : Nat) (v : Value) (r : RSt) (i : Nat) (c y : Int) (l : List ByteArray) : Prop where
  rs : RS ts fin d r i n c y
  box : wr.heap[w.heap.size]? = some (.cells #[.slice a ts.length cap, .int .i64 (i : Nat), .int .i64 fin, .int .i64 (n : Nat), .int .i64 c, .int .i64 y] 44 (0, 0))
  res : wr.heap[w.heap.size + 1]? = some (.cells #[.slice none 0 0, .int .i64 0, .int .i64 0, .int .i64 0, .int .i64 0, .int .i64 0] 44 (0, 0))
  own : wr.ownsRow (w.heap.size + 2) 9 1 v l.length (l.map .string)
  bel : Below w.heap.size w wr
  lt : mz r ≤ k
  len : l.length ≤ ts.length + 1
  len' : okR r = true → l.length ≤ i

set_option maxRecDepth 8000 in
set_option maxHeartbeats 3200000 in
theorem rnames_any (a : Option Addr) (cap : Nat) (ts : List M.Tok) (fin : Int) (d : Nat) (r : RSt) (i n : Nat) (c y : Int) (w : World) (h : RS ts fin d r i n c y) (hT : TokAt w (.slice a ts.length cap) ts) (hfew : ts.length ≤ 4398046511000) :
    Calls Tryz.prog 21 #[.agg #[.slice a ts.length cap, .int .i64 (i : Nat), .int .i64 fin, .int .i64 (n : Nat), .int .i64 c, .int .i64 y]] w fun e w' => Below w.heap.size w w' ∧ ∃ (i' : Nat) (c' y' : Int) (v : Value) (l : List ByteArray), e = .returned (.tuple #[.agg #[.slice a ts.length cap, .int .i64 (i' : Nat), .int .i64 fin, .int .i64 (n : Nat), .int .i64 c', .int .i64 y'], v]) ∧ RS ts fin d (stR (namesR r)) i' n c' y' ∧ StrsAt w' (Old w) v l ∧ ∀ S' x, namesR r = .ok (S', x) → l = x := by
  have hi := h.lt
  have hn2 := h.lim
  obtain ⟨i0, hi0, hz0, hz1, hz2⟩ := info_parts infoStr
  have HR := hid (namesR_eq r)
  have own0 : (((w.alloc (.cells #[.slice a ts.length cap, .int .i64 (i : Nat), .int .i64 fin, .int .i64 (n : Nat), .int .i64 c, .int .i64 y] 44)).alloc (.cells #[.slice none 0 0, .int .i64 0, .int .i64 0, .int .i64 0, .int .i64 0, .int .i64 0] 44)).alloc (.cells #[] 9)).ownsRow (w.heap.size + 2) 9 1 (.slice (some ⟨w.heap.size + 2, 0, none⟩) 0 0) 0 [] := by
    have := World.ownsRow_made (base := w.heap.size + 2) (e := 9) (size := 1) ((w.alloc (.cells #[.slice a ts.length cap, .int .i64 (i : Nat), .int .i64 fin, .int .i64 (n : Nat), .int .i64 c, .int .i64 y] 44)).alloc (.cells #[.slice none 0 0, .int .i64 0, .int .i64 0, .int .i64 0, .int .i64 0, .int .i64 0] 44)) #[] 0 (by simp) (by unfold maxLen; omega) rfl
    simp only [World.size_alloc] at this
    exact this
  go_enter Tryz.func21, Tryz.ntmps21
  go_wp2_with fail
  refine (rneed_any _ _ _ _ _ _ _ _ _ _ _ h (hT.keep (below_three _ _ _)) (M.ch 40) (by decide) (by decide)).mono ?_
  rintro e w1 ⟨hb, i1, c1, y1, rfl, h1⟩
  obtain ⟨hP1, hQ1, hE1, hbw1⟩ := three_new hb
  have own1 := ownsRow_below own0 hb
  clear own0 hb hE1
  obtain ⟨x0, x1, x2, x3, x4, x5, xf⟩ := cells6 hP1
  go_wp2_with fail
  have hP2 := set6 hP1 (.slice a ts.length cap) (.int .i64 (i1 : Nat)) (.int .i64 fin) (.int .i64 (n : Nat)) (.int .i64 c1) (.int .i64 y1)
  have hQ2 := kset6 hQ1 (show w.heap.size + 1 ≠ w.heap.size by omega) (.slice a ts.length cap) (.int .i64 (i1 : Nat)) (.int .i64 fin) (.int .i64 (n : Nat)) (.int .i64 c1) (.int .i64 y1)
  have hbw2 := bset6 hbw1 (Nat.le_refl w.heap.size) (.slice a ts.length cap) (.int .i64 (i1 : Nat)) (.int .i64 fin) (.int .i64 (n : Nat)) (.int .i64 c1) (.int .i64 y1)
  have own2 := oset6 own1 (show w.heap.size < w.heap.size + 2 by omega) (.slice a ts.length cap) (.int .i64 (i1 : Nat)) (.int .i64 fin) (.int .i64 (n : Nat)) (.int .i64 c1) (.int .i64 y1)
  generalize hW2 : ((((((w1.setCell ⟨w.heap.size, 0, none⟩ (.slice a ts.length cap)).setCell ⟨w.heap.size, 1, none⟩ (.int .i64 (i1 : Nat))).setCell ⟨w.heap.size, 2, none⟩ (.int .i64 fin)).setCell ⟨w.heap.size, 3, none⟩ (.int .i64 (n : Nat))).setCell ⟨w.heap.size, 4, none⟩ (.int .i64 c1)).setCell ⟨w.heap.size, 5, none⟩ (.int .i64 y1)) = w2 at hP2 hQ2 hbw2 own2 ⊢
  clear hW2 x0 x1 x2 x3 x4 x5 xf hP1 hQ1 hbw1 own1
  refine (ris_any _ _ _ _ _ _ _ _ _ _ _ h1 (hT.keep hbw2) (M.ch 41) (by decide) (by decide)).mono ?_
  rintro e w3 ⟨rfl, hb3⟩
  have hbw3 := hbw2.trans (hb3.mono hbw2.size)
  have hP3 := kept hb3 hP2
  have hQ3 := kept hb3 hQ2
  have own3 := ownsRow_below own2 hb3
  clear hP2 hQ2 own2 hb3 hbw2
  obtain ⟨x0, x1, x2, x3, x4, x5, xf⟩ := cells6 hP3
  cases hk : isR (needR r (M.ch 40)) (M.ch 41)
  · have HL := hid (namesR_loop hk)
    go_wp2_with fail
    clear x0 x1 x2 x3 x4 x5 xf
    go_loopg [4] (mz (needR r (M.ch 40))) (fun k v wr => ∃ rr ii cc yy l, NmIn a cap ts fin d n w wr k v rr ii cc yy l ∧ Hid (namesR r = bindR rr fun S => M.bnd (M.itemName S l) (TL (M.ch 41) M.itemName)))
    case atStart => exact ⟨needR r (M.ch 40), i1, c1, y1, [], ⟨h1, hP3, hQ3, own3, hbw3, Nat.le_refl _, Nat.zero_le _, fun _ => Nat.zero_le _⟩, by unfold Hid; rw [HR.out, HL.out]⟩
    case round =>
      obtain ⟨rr, ii, cc, yy, l, ⟨rs, hP, hQ, own, hbw, hlt, hlen, hlen'⟩, HT⟩ := hrel
      clear hP3 hQ3 own3 hbw3 HL
      have hil := rs.lt
      obtain ⟨x0, x1, x2, x3, x4, x5, xf⟩ := cells6 hP
      go_wp2_with fail
      refine (rok_any _ _ _ _ _ _ _ _ _ _ _ _ rs).mono ?_
      rintro e w3 ⟨rfl, hb3⟩
      have hbw3 := hbw.trans (hb3.mono hbw.size)
      have hP3 := kept hb3 hP
      have hQ3 := kept hb3 hQ
      have own3 := ownsRow_below own hb3
      clear x0 x1 x2 x3 x4 x5 xf hP hQ own hb3
      obtain ⟨x0, x1, x2, x3, x4, x5, xf⟩ := cells6 hP3
      cases hok : okR rr
      · obtain ⟨f, rfl⟩ := okR_no hok
        obtain ⟨q0, q1, q2, q3, q4, q5, qf⟩ := cells6 hQ3
        obtain ⟨av, cv, rfl⟩ := own_form own3
        go_wp2_with fail
        refine bodyPost_ret (v := .tuple #[.agg #[.slice a ts.length cap, .int .i64 (ii : Nat), .int .i64 fin, .int .i64 (n : Nat), .int .i64 cc, .int .i64 yy], .slice av l.length cv]) (by simp [results, Tryz.results21, go_sem, q0, q1, q2, q3, q4, q5]) rfl ⟨?_, ii, cc, yy, _, l, rfl, by rw [HT.out]; exact rs, ?_, fun S' x e => by rw [HT.out] at e; cases e⟩
        · exact bset6 hbw3 (by omega) _ _ _ _ _ _
        · exact SlAt.of_owns (oset6 own3 (by omega) _ _ _ _ _ _) (fun b hb hx => by have : b < w.heap.size := hx; omega) (by omega)
      · obtain ⟨S, rfl⟩ := okR_yes hok
        have hl1 := hlen' hok
        cases gk with
        | zero => simp [mz] at hlt
        | succ k =>
          go_wp2_with fail
          refine (rname_any _ _ _ _ _ _ _ _ _ _ _ rs (hT.keep hbw3)).mono ?_
          rintro e w4 ⟨hb4, i4, c4, y4, s, rfl, h4, hs⟩
          have hbw4 := hbw3.trans (hb4.mono hbw3.size)
          have hP4 := kept hb4 hP3
          have hQ4 := kept hb4 hQ3
          have own4 := ownsRow_below own3 hb4
          have hz4 := hbw4.size
          have hg4 := hlt_ hQ4
          have hi4 := h4.lt
          clear x0 x1 x2 x3 x4 x5 xf hP3 hQ3 own3 hb4
          have HT2 : Hid (namesR r = bindR (stR (nameR (.ok S))) fun S1 => TL (M.ch 41) M.itemName S1 (l ++ [s])) := by
            unfold Hid; rw [HT.out]; exact names_item hs
          have hshort : ∀ S1, stR (nameR (.ok S)) = .ok S1 → S1.rest.length < S.rest.length := fun _ => names_short
          have hm63 : l.length + 1 ≤ maxLen := by unfold maxLen; omega
          have hmby : (l.length + 1) * 16 ≤ 140737488355328 := by omega
          have hob := fun k' hk' => (own4.lt k' hk')
          have hNX : ((w4.alloc (.cells #[.slice a ts.length cap, .int .i64 (i4 : Nat), .int .i64 fin, .int .i64 (n : Nat), .int .i64 c4, .int .i64 y4] 44)).alloc (.cells #[.string s] 9)).heap[w4.heap.size]? = some (.cells #[.slice a ts.length cap, .int .i64 (i4 : Nat), .int .i64 fin, .int .i64 (n : Nat), .int .i64 c4, .int .i64 y4] 44) := by
            exact (Below.heap_alloc _ _ _ (by simp)).trans (heap_alloc_new w4 _)
          have hTM : ((w4.alloc (.cells #[.slice a ts.length cap, .int .i64 (i4 : Nat), .int .i64 fin, .int .i64 (n : Nat), .int .i64 c4, .int .i64 y4] 44)).alloc (.cells #[.string s] 9)).heap[w4.heap.size + 1]? = some (.cells #[.string s] 9) := by
            have := heap_alloc_new (w4.alloc (.cells #[.slice a ts.length cap, .int .i64 (i4 : Nat), .int .i64 fin, .int .i64 (n : Nat), .int .i64 c4, .int .i64 y4] 44)) (.cells #[.string s] 9); simp only [World.size_alloc] at this; exact this
          have hWz : ((w4.alloc (.cells #[.slice a ts.length cap, .int .i64 (i4 : Nat), .int .i64 fin, .int .i64 (n : Nat), .int .i64 c4, .int .i64 y4] 44)).alloc (.cells #[.string s] 9)).heap.size = w4.heap.size + 2 := by simp only [World.size_alloc]
          have hbW : Below w4.heap.size w4 ((w4.alloc (.cells #[.slice a ts.length cap, .int .i64 (i4 : Nat), .int .i64 fin, .int .i64 (n : Nat), .int .i64 c4, .int .i64 y4] 44)).alloc (.cells #[.string s] 9)) := below_two _ _
          go_wp2_with (at_builtin; refine wpList_append_lies _ rfl _ _ 49 rfl (w.heap.size + 2) 9 i0 _ 1 16 Tryz.underlying49 hi0 hz0 hz1 hz2 rfl (by decide) _ _ _ rfl (ownsRow_below own4 hbW) ⟨w4.heap.size + 1, 0, none⟩ 1 1 [.string s] rfl rfl (World.news_of_block (cs := #[.string s]) (t := 9) (fr := (0, 0)) hTM) (by simp [Value.oneCell']) Nat.one_pos hm63 hmby (by rw [hWz]; omega) (w4.heap.size + 2) hWz ?_)
          intro gg cap' w5 hown5 hgrow hat5 hlt5
          have hP5 := kgrow hgrow (kept hbW hP4) (fun k' hk' => by have := hob k' hk'; omega)
          have hQ5 := kgrow hgrow (kept hbW hQ4) (fun k' hk' => by have := hob k' hk'; omega)
          have hX5 := kgrow hgrow hNX (fun k' hk' => by have := hob k' hk'; omega)
          have hbw5 : Below w.heap.size w w5 := bgrow (hbw4.trans (hbW.mono hz4)) hgrow (fun k' hk' => by have := hob k' hk'; omega) (by rw [hWz]; omega)
          have own5 : w5.ownsRow (w.heap.size + 2) 9 1 (.slice (some ⟨gg, 0, none⟩) (l.length + 1) cap') (l ++ [s]).length ((l ++ [s]).map .string) := by
            rw [List.map_append, List.length_append]; exact hown5
          obtain ⟨x0, x1, x2, x3, x4, x5, xf⟩ := cells6 hX5
          obtain ⟨q0, q1, q2, q3, q4, q5, qf⟩ := cells6 hP5
          clear hNX hTM hbW hP4 hQ4 own4 hown5 hat5
          go_wp2_with fail
          have hP6 := set6 hP5 (.slice a ts.length cap) (.int .i64 (i4 : Nat)) (.int .i64 fin) (.int .i64 (n : Nat)) (.int .i64 c4) (.int .i64 y4)
          have hQ6 := kset6 hQ5 (show w.heap.size + 1 ≠ w.heap.size by omega) (.slice a ts.length cap) (.int .i64 (i4 : Nat)) (.int .i64 fin) (.int .i64 (n : Nat)) (.int .i64 c4) (.int .i64 y4)
          have hbw6 := bset6 hbw5 (Nat.le_refl w.heap.size) (.slice a ts.length cap) (.int .i64 (i4 : Nat)) (.int .i64 fin) (.int .i64 (n : Nat)) (.int .i64 c4) (.int .i64 y4)
          have own6 := oset6 own5 (show w.heap.size < w.heap.size + 2 by omega) (.slice a ts.length cap) (.int .i64 (i4 : Nat)) (.int .i64 fin) (.int .i64 (n : Nat)) (.int .i64 c4) (.int .i64 y4)
          generalize hW6 : ((((((w5.setCell ⟨w.heap.size, 0, none⟩ (.slice a ts.length cap)).setCell ⟨w.heap.size, 1, none⟩ (.int .i64 (i4 : Nat))).setCell ⟨w.heap.size, 2, none⟩ (.int .i64 fin)).setCell ⟨w.heap.size, 3, none⟩ (.int .i64 (n : Nat))).setCell ⟨w.heap.size, 4, none⟩ (.int .i64 c4)).setCell ⟨w.heap.size, 5, none⟩ (.int .i64 y4)) = w6 at hP6 hQ6 hbw6 own6 ⊢
          clear hW6 x0 x1 x2 x3 x4 x5 xf q0 q1 q2 q3 q4 q5 qf hP5 hQ5 hbw5 own5 hX5 hgrow hlt5
          refine (ris_any _ _ _ _ _ _ _ _ _ _ _ h4 (hT.keep hbw6) (M.ch 41) (by decide) (by decide)).mono ?_
          rintro e w7 ⟨rfl, hb7⟩
          have hbw7 := hbw6.trans (hb7.mono hbw6.size)
          have hP7 := kept hb7 hP6
          have hQ7 := kept hb7 hQ6
          have own7 := ownsRow_below own6 hb7
          clear hP6 hQ6 own6 hb7
          obtain ⟨x0, x1, x2, x3, x4, x5, xf⟩ := cells6 hP7
          cases hk2 : isR (stR (nameR (.ok S))) (M.ch 41)
          · have HT3 : Hid (namesR r = bindR (needR (stR (nameR (.ok S))) (M.ch 44)) fun S => M.bnd (M.itemName S (l ++ [s])) (TL (M.ch 41) M.itemName)) := by
              unfold Hid; rw [HT2.out]; exact TL_step names_it_short hk2
            go_wp2_with fail
            refine (rneed_any _ _ _ _ _ _ _ _ _ _ _ h4 (hT.keep hbw7) (M.ch 44) (by decide) (by decide)).mono ?_
            rintro e w8 ⟨hb8, i8, c8, y8, rfl, h8⟩
            have hbw8 := hbw7.trans (hb8.mono hbw7.size)
            have hP8 := kept hb8 hP7
            have hQ8 := kept hb8 hQ7
            have own8 := ownsRow_below own7 hb8
            clear x0 x1 x2 x3 x4 x5 xf hP7 hQ7 own7 hb8
            obtain ⟨x0, x1, x2, x3, x4, x5, xf⟩ := cells6 hP8
            go_wp2_with fail
            have hmz := mz_need (t := M.ch 44) (by decide) hshort
            have hkk : S.rest.length ≤ k := by simp only [mz] at hlt; omega
            go_roundg k
            case measure => omega
            case rel =>
              refine ⟨needR (stR (nameR (.ok S))) (M.ch 44), i8, c8, y8, l ++ [s], ⟨h8, set6 hP8 _ _ _ _ _ _, kset6 hQ8 (by omega) _ _ _ _ _ _, oset6 own8 (by omega) _ _ _ _ _ _, bset6 hbw8 (Nat.le_refl _) _ _ _ _ _ _, by omega, by simp; omega, fun ho => ?_⟩, HT3⟩
              obtain ⟨S8, e8⟩ := okR_yes ho
              obtain ⟨S1, e1, l8⟩ := hmz.2 S8 e8
              have l1 := hshort S1 e1
              rw [e8] at h8
              rw [e1] at h4
              have j8 := h8.idx.1
              have j4 := h4.idx.1
              have j0 := rs.idx.1
              simp only [List.length_append, List.length_cons, List.length_nil]
              omega
          · obtain ⟨S1, e1⟩ := isR_ok hk2
            have HT3 : Hid (namesR r = .ok (S1.adv, l ++ [s])) := by
              unfold Hid; rw [HT2.out, e1]; rw [e1] at hk2; exact TL_last hk2 (by decide)
            have HN : Hid (needR (stR (nameR (.ok S))) (M.ch 41) = .ok S1.adv) := by
              unfold Hid; rw [e1] at hk2 ⊢; exact needR_yes hk2
            go_wp2_with fail
            refine (rneed_any _ _ _ _ _ _ _ _ _ _ _ h4 (hT.keep hbw7) (M.ch 41) (by decide) (by decide)).mono ?_
            rintro e w8 ⟨hb8, i8, c8, y8, rfl, h8⟩
            have hbw8 := hbw7.trans (hb8.mono hbw7.size)
            have hQ8 := kept hb8 hQ7
            have own8 := ownsRow_below own7 hb8
            clear x0 x1 x2 x3 x4 x5 xf hP7 hQ7 own7 hb8
            obtain ⟨q0, q1, q2, q3, q4, q5, qf⟩ := cells6 hQ8
            go_wp2_with fail
            refine bodyPost_ret (v := .tuple #[.agg #[.slice a ts.length cap, .int .i64 (i8 : Nat), .int .i64 fin, .int .i64 (n : Nat), .int .i64 c8, .int .i64 y8], .slice (some ⟨gg, 0, none⟩) (l.length + 1) cap']) (by simp [results, Tryz.results21, go_sem, q0, q1, q2, q3, q4, q5]) rfl ⟨?_, i8, c8, y8, _, l ++ [s], rfl, ?_, ?_, fun S' x e => by rw [HT3.out] at e; cases e; rfl⟩
            · exact bset6 hbw8 (by omega) _ _ _ _ _ _
            · rw [HT3.out]; rw [HN.out] at h8; exact h8
            · exact SlAt.of_owns (oset6 own8 (by omega) _ _ _ _ _ _) (fun b hb hx => by have : b < w.heap.size := hx; omega) (by simp; omega)
  · obtain ⟨S1, e1⟩ := isR_ok hk
    have HT3 : Hid (namesR r = .ok (S1.adv, [])) := by
      unfold Hid; rw [HR.out, e1]; rw [e1] at hk; exact list_none hk
    have HN : Hid (needR (needR r (M.ch 40)) (M.ch 41) = .ok S1.adv) := by
      unfold Hid; rw [e1] at hk ⊢; exact needR_yes hk
    go_wp2_with fail
    refine (rneed_any _ _ _ _ _ _ _ _ _ _ _ h1 (hT.keep hbw3) (M.ch 41) (by decide) (by decide)).mono ?_
    rintro e w8 ⟨hb8, i8, c8, y8, rfl, h8⟩
    have hbw8 := hbw3.trans (hb8.mono hbw3.size)
    have hQ8 := kept hb8 hQ3
    have own8 := ownsRow_below own3 hb8
    clear x0 x1 x2 x3 x4 x5 xf hP3 hQ3 own3 hb8
    obtain ⟨q0, q1, q2, q3, q4, q5, qf⟩ := cells6 hQ8
    go_wp2_with fail
    refine bodyPost_ret (v := .tuple #[.agg #[.slice a ts.length cap, .int .i64 (i8 : Nat), .int .i64 fin, .int .i64 (n : Nat), .int .i64 c8, .int .i64 y8], .slice (some ⟨w.heap.size + 2, 0, none⟩) 0 0]) (by simp [results, Tryz.results21, go_sem, q0, q1, q2, q3, q4, q5]) rfl ⟨?_, i8, c8, y8, _, [], rfl, ?_, ?_, fun S' x e => by rw [HT3.out] at e; cases e; rfl⟩
    · exact bset6 hbw8 (by omega) _ _ _ _ _ _
    · rw [HT3.out]; rw [HN.out] at h8; exact h8
    · exact SlAt.of_owns (oset6 own8 (by omega) _ _ _ _ _ _) (fun b hb hx => by have : b < w.heap.size := hx; omega) (Nat.zero_le _)
end Go.Proofs.YtkonkdhoakcmdaaGreatDoor
