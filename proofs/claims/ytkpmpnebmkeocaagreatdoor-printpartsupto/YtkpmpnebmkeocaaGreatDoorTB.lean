/-
  Lists in brackets, as mathematics; and the walk of the document's reader's names (proteanref02). Conditions: the state's; how many tokens there are.
-/
import Derived.Test.YtkpmpnebmkeocaaGreatDoorTA
import Derived.Test.YtkpmpnebmkeocaaGreatDoorQA
import Derived.Deep.LoopGhost
import Derived.Test.YtkpmpnebmkeocaaGreatDoorRA
set_option linter.unusedSimpArgs false
set_option linter.unusedVariables false
section
namespace Go.Proofs.YtkpmpnebmkeocaaGreatDoor
open Go.RowKit

def TL {β : Type} (last : ByteArray) (item : M.St → β → M.Res β) (S1 : M.St) (b1 : β) : M.Res β :=
  M.bnd (M.more item S1.rest.length S1 b1) fun S2 b2 => M.bnd (M.take S2 last) fun S3 _ => .ok (S3, b2)
theorem list_eq {β : Type} {last : ByteArray} {item : M.St → β → M.Res β} {S : M.St} {b : β} (h : S.at last = false) : M.list last item S b = M.bnd (item S b) (TL last item) := by
  unfold M.list
  rw [if_neg (by simp [h])]; rfl
theorem list_none {β : Type} {last : ByteArray} {item : M.St → β → M.Res β} {S : M.St} {b : β} (h : S.at last = true) : M.list last item S b = .ok (S.adv, b) := by
  unfold M.list
  rw [if_pos h]
theorem more_no {β : Type} (item : M.St → β → M.Res β) (k : Nat) (S : M.St) (b : β) (h : S.at (M.ch 44) = false) : M.more item k S b = .ok (S, b) := by
  cases k with
  | zero => rfl
  | succ k => simp [M.more, h]
theorem more_fuel {β : Type} (item : M.St → β → M.Res β) (hs : ∀ S b S' b', item S b = .ok (S', b') → S'.rest.length < S.rest.length) : ∀ (m : Nat) (S : M.St) (b : β) (k : Nat), S.rest.length ≤ m → S.rest.length ≤ k → M.more item k S b = M.more item S.rest.length S b
  | m, S, b, k, hm, hk => by
    cases h : S.at (M.ch 44)
    · rw [more_no _ _ _ _ h, more_no _ _ _ _ h]
    · have hne := M.at_ne h (by decide)
      have hsh := M.adv_short hne
      have hl : S.rest.length = S.adv.rest.length + 1 := by
        obtain ⟨rest, fin, n, d⟩ := S
        cases rest with
        | nil => exact absurd rfl hne
        | cons x l => rfl
      cases m with
      | zero => omega
      | succ m =>
        cases k with
        | zero => omega
        | succ k =>
          rw [hl]
          simp only [M.more, h, if_true]
          cases hit : item S.adv b with
          | error e => rfl
          | ok p =>
            obtain ⟨S2, b2⟩ := p
            have := hs _ _ _ _ hit
            show M.more item k S2 b2 = M.more item S.adv.rest.length S2 b2
            rw [more_fuel item hs m S2 b2 k (by omega) (by omega), more_fuel item hs m S2 b2 S.adv.rest.length (by omega) (by omega)]
theorem at_two {S : M.St} {s t : ByteArray} (h : S.at s = true) (ht : ¬ s = t) : S.at t = false := by
  have e : S.now.t = s := of_decide_eq_true h
  exact decide_eq_false (by rw [e]; exact ht)
theorem TL_last {β : Type} {last : ByteArray} {item : M.St → β → M.Res β} {S : M.St} {b : β} (h : S.at last = true) (hl : ¬ last = M.ch 44) : TL last item S b = .ok (S.adv, b) := by
  unfold TL
  rw [more_no _ _ _ _ (at_two h hl)]
  simp [M.bnd, M.take, h]
theorem TL_step {β : Type} {last : ByteArray} {item : M.St → β → M.Res β} (hs : ∀ S b S' b', item S b = .ok (S', b') → S'.rest.length < S.rest.length) {r : RSt} {b : β} (h : isR r last = false) :
    bindR r (fun S => TL last item S b) = bindR (needR r (M.ch 44)) fun S => M.bnd (item S b) (TL last item) := by
  cases r with
  | error f => rfl
  | ok S =>
    have hl : S.at last = false := h
    cases hc : S.at (M.ch 44)
    · have : needR (.ok S) (M.ch 44) = failR (.ok S) 20 := needR_no hc
      rw [this]
      show TL last item S b = _
      unfold TL
      rw [more_no _ _ _ _ hc]
      simp [M.bnd, M.take, hl, failR, bindR, M.fail]
    · have : needR (.ok S) (M.ch 44) = .ok S.adv := needR_yes hc
      rw [this]
      show TL last item S b = M.bnd (item S.adv b) (TL last item)
      have hne := M.at_ne hc (by decide)
      have hl : S.rest.length = S.adv.rest.length + 1 := by
        obtain ⟨rest, fin, n, d⟩ := S
        cases rest with
        | nil => exact absurd rfl hne
        | cons x l => rfl
      unfold TL
      rw [hl]
      simp only [M.more, hc, if_true]
      cases hit : item S.adv b with
      | error e => rfl
      | ok p =>
        obtain ⟨S2, b2⟩ := p
        have := hs _ _ _ _ hit
        show M.bnd (M.more item S.adv.rest.length S2 b2) _ = M.bnd (M.more item S2.rest.length S2 b2) _
        rw [more_fuel item hs S2.rest.length S2 b2 S.adv.rest.length (Nat.le_refl _) (by omega)]

def mz (r : RSt) : Nat := match r with | .ok S => S.rest.length + 1 | .error _ => 0
theorem RS.idx {ts : List M.Tok} {fin : Int} {d : Nat} {i n : Nat} {c y : Int} {S : M.St} (h : RS ts fin d (.ok S) i n c y) : S.rest.length = ts.length - i ∧ S.d = d ∧ S.n = n := by
  obtain ⟨_, _, rfl⟩ := h.good S rfl
  exact ⟨by simp, rfl, rfl⟩

theorem set6 {w : World} {g : Nat} {T : TypeId} {v0 v1 v2 v3 v4 v5 : Value} (h : w.heap[g]? = some (.cells #[v0, v1, v2, v3, v4, v5] T (0, 0))) (u0 u1 u2 u3 u4 u5 : Value) :
    (((((((w.setCell ⟨g, 0, none⟩ u0).setCell ⟨g, 1, none⟩ u1).setCell ⟨g, 2, none⟩ u2).setCell ⟨g, 3, none⟩ u3).setCell ⟨g, 4, none⟩ u4).setCell ⟨g, 5, none⟩ u5)).heap[g]? = some (.cells #[u0, u1, u2, u3, u4, u5] T (0, 0)) := by
  have h0 := heap_setCell_same w g 0 _ _ u0 h
  have h1 := heap_setCell_same _ g 1 _ _ u1 h0
  have h2 := heap_setCell_same _ g 2 _ _ u2 h1
  have h3 := heap_setCell_same _ g 3 _ _ u3 h2
  have h4 := heap_setCell_same _ g 4 _ _ u4 h3
  have h5 := heap_setCell_same _ g 5 _ _ u5 h4
  exact h5
theorem kset6 {w : World} {g k : Nat} {o : Obj} (h : w.heap[k]? = some o) (hne : k ≠ g) (u0 u1 u2 u3 u4 u5 : Value) :
    (((((((w.setCell ⟨g, 0, none⟩ u0).setCell ⟨g, 1, none⟩ u1).setCell ⟨g, 2, none⟩ u2).setCell ⟨g, 3, none⟩ u3).setCell ⟨g, 4, none⟩ u4).setCell ⟨g, 5, none⟩ u5)).heap[k]? = some o :=
  kset (kset (kset (kset (kset (kset h hne _) hne _) hne _) hne _) hne _) hne _
theorem bset6 {B g : Nat} {a w : World} (h : Below B a w) (hg : B ≤ g) (u0 u1 u2 u3 u4 u5 : Value) :
    Below B a ((((((w.setCell ⟨g, 0, none⟩ u0).setCell ⟨g, 1, none⟩ u1).setCell ⟨g, 2, none⟩ u2).setCell ⟨g, 3, none⟩ u3).setCell ⟨g, 4, none⟩ u4).setCell ⟨g, 5, none⟩ u5) :=
  (((((h.setCell hg _).setCell hg _).setCell hg _).setCell hg _).setCell hg _).setCell hg _
theorem oset6 {w : World} {base g z n : Nat} {e : TypeId} {v : Value} {xs : List Value} (h : w.ownsRow base e z v n xs) (hg : g < base) (u0 u1 u2 u3 u4 u5 : Value) :
    ((((((w.setCell ⟨g, 0, none⟩ u0).setCell ⟨g, 1, none⟩ u1).setCell ⟨g, 2, none⟩ u2).setCell ⟨g, 3, none⟩ u3).setCell ⟨g, 4, none⟩ u4).setCell ⟨g, 5, none⟩ u5).ownsRow base e z v n xs :=
  ownsRow_setCell_below (ownsRow_setCell_below (ownsRow_setCell_below (ownsRow_setCell_below (ownsRow_setCell_below (ownsRow_setCell_below h hg _) hg _) hg _) hg _) hg _) hg _
theorem okR_no {r : RSt} (h : okR r = false) : ∃ f, r = .error f := by
  cases r with
  | error f => exact ⟨f, rfl⟩
  | ok S => cases h
theorem okR_yes {r : RSt} (h : okR r = true) : ∃ S, r = .ok S := by
  cases r with
  | error f => cases h
  | ok S => exact ⟨S, rfl⟩
theorem kgrow {W W' : World} {g : Nat} {o : Obj} {row : Option Nat} (hg : W.grownBy W' row) (h : W.heap[g]? = some o) (hne : ∀ k, row = some k → g ≠ k) : W'.heap[g]? = some o :=
  (hg.block g (hlt_ h) fun e => hne g e.symm rfl).trans h
theorem bgrow {B : Nat} {a W W' : World} {row : Option Nat} (h : Below B a W) (hg : W.grownBy W' row) (hr : ∀ k, row = some k → B ≤ k) (hB : B ≤ W.heap.size) : Below B a W' :=
  ⟨hg.os.trans h.os, hg.tape.trans h.tape, hg.output.trans h.output, Nat.le_trans h.size hg.size, fun k hk => by
    rw [hg.block k (by omega) (fun e => by have := hr k e.symm; omega)]; exact h.block k hk⟩
theorem mz_need {rn : RSt} {m : Nat} {t : ByteArray} (ht : t ≠ M.em) (h : ∀ S1, rn = .ok S1 → S1.rest.length < m) : mz (needR rn t) ≤ m ∧ ∀ S', needR rn t = .ok S' → ∃ S1, rn = .ok S1 ∧ S'.rest.length < S1.rest.length := by
  cases rn with
  | error f => exact ⟨Nat.zero_le _, fun S' e => by cases e⟩
  | ok S1 =>
    have h1 := h S1 rfl
    cases hc : S1.at t
    · have e1 : needR (.ok S1) t = failR (.ok S1) 20 := needR_no hc
      rw [e1]
      exact ⟨Nat.zero_le _, fun S' e => by cases e⟩
    · have e1 : needR (.ok S1) t = .ok S1.adv := needR_yes hc
      have hsh := M.adv_short (M.at_ne hc ht)
      rw [e1]
      refine ⟨by show S1.adv.rest.length + 1 ≤ m; omega, fun S' e => ⟨S1, rfl, by cases e; exact hsh⟩⟩


def namesR (r : RSt) : M.Res (List ByteArray) := bindR r fun S => M.bnd (M.take S (M.ch 40)) fun S1 _ => M.list (M.ch 41) M.itemName S1 []
theorem namesR_eq (r : RSt) : namesR r = bindR (needR r (M.ch 40)) fun S1 => M.list (M.ch 41) M.itemName S1 [] := by
  cases r with
  | error f => rfl
  | ok S =>
    simp only [namesR, needR, bindR]
    cases M.take S (M.ch 40) with
    | error e => rfl
    | ok p => rfl
theorem namesR_loop {r : RSt} (h : isR r (M.ch 41) = false) : bindR r (fun S1 => M.list (M.ch 41) M.itemName S1 []) = bindR r fun S => M.bnd (M.itemName S []) (TL (M.ch 41) M.itemName) := by
  cases r with
  | error f => rfl
  | ok S => exact list_eq h
theorem names_short {S S1 : M.St} (h : stR (nameR (.ok S)) = .ok S1) : S1.rest.length < S.rest.length := by
  have e : nameR (.ok S) = M.name S := rfl
  rw [e] at h
  cases hn : M.name S with
  | error e => rw [hn] at h; cases h
  | ok p => rw [hn] at h; cases h; exact M.name_short hn
theorem names_item {S : M.St} {l : List ByteArray} {x : ByteArray} {last : ByteArray} (hs : ∀ S' x', nameR (.ok S) = .ok (S', x') → x = x') :
    bindR (.ok S) (fun S => M.bnd (M.itemName S l) (TL last M.itemName)) = bindR (stR (nameR (.ok S))) fun S1 => TL last M.itemName S1 (l ++ [x]) := by
  have e : nameR (.ok S) = M.name S := rfl
  rw [e] at hs ⊢
  show M.bnd (M.itemName S l) _ = _
  unfold M.itemName
  cases hn : M.name S with
  | error e => rfl
  | ok p => obtain rfl := hs p.1 p.2 hn; rfl
theorem names_it_short (S : M.St) (b : List ByteArray) (S' : M.St) (b' : List ByteArray) (h : M.itemName S b = .ok (S', b')) : S'.rest.length < S.rest.length := by
  unfold M.itemName at h
  obtain ⟨S1, x, h1, h2⟩ := M.bnd_ok h
  cases h2
  exact M.name_short h1

structure NmIn (a : Option Addr) (cap : Nat) (ts : List M.Tok) (fin : Int) (d n : Nat) (w wr : World) (k : Nat) (v : Value) (r : RSt) (i : Nat) (c y : Int) (l : List ByteArray) : Prop where
  rs : RS ts fin d r i n c y
  box : wr.heap[w.heap.size]? = some (.cells #[.slice a ts.length cap, .int .i64 (i : Nat), .int .i64 fin, .int .i64 (n : Nat), .int .i64 c, .int .i64 y] 81 (0, 0))
  res : wr.heap[w.heap.size + 1]? = some (.cells #[.slice none 0 0, .int .i64 0, .int .i64 0, .int .i64 0, .int .i64 0, .int .i64 0] 81 (0, 0))
  own : wr.ownsRow (w.heap.size + 2) 9 1 v l.length (l.map .string)
  bel : Below w.heap.size w wr
  lt : mz r ≤ k
  len : l.length ≤ ts.length + 1
  len' : okR r = true → l.length ≤ i

set_option maxRecDepth 8000 in
set_option maxHeartbeats 3200000 in
theorem rnames_any (a : Option Addr) (cap : Nat) (ts : List M.Tok) (fin : Int) (d : Nat) (r : RSt) (i n : Nat) (c y : Int) (w : World) (h : RS ts fin d r i n c y) (hT : TokAt w (.slice a ts.length cap) ts) (hfew : ts.length ≤ 4398046511000) :
    Calls Tryz.prog 56 #[.agg #[.slice a ts.length cap, .int .i64 (i : Nat), .int .i64 fin, .int .i64 (n : Nat), .int .i64 c, .int .i64 y]] w fun e w' => Below w.heap.size w w' ∧ ∃ (i' : Nat) (c' y' : Int) (v : Value) (l : List ByteArray), e = .returned (.tuple #[.agg #[.slice a ts.length cap, .int .i64 (i' : Nat), .int .i64 fin, .int .i64 (n : Nat), .int .i64 c', .int .i64 y'], v]) ∧ RS ts fin d (stR (namesR r)) i' n c' y' ∧ StrsAt w' (Old w) v l ∧ ∀ S' x, namesR r = .ok (S', x) → l = x := by
  have hi := h.lt
  have hn2 := h.lim
  obtain ⟨i0, hi0, hz0, hz1, hz2⟩ := info_parts infoStr
  have HR := hid (namesR_eq r)
  have own0 : (((w.alloc (.cells #[.slice a ts.length cap, .int .i64 (i : Nat), .int .i64 fin, .int .i64 (n : Nat), .int .i64 c, .int .i64 y] 81)).alloc (.cells #[.slice none 0 0, .int .i64 0, .int .i64 0, .int .i64 0, .int .i64 0, .int .i64 0] 81)).alloc (.cells #[] 9)).ownsRow (w.heap.size + 2) 9 1 (.slice (some ⟨w.heap.size + 2, 0, none⟩) 0 0) 0 [] := by
    have := World.ownsRow_made (base := w.heap.size + 2) (e := 9) (size := 1) ((w.alloc (.cells #[.slice a ts.length cap, .int .i64 (i : Nat), .int .i64 fin, .int .i64 (n : Nat), .int .i64 c, .int .i64 y] 81)).alloc (.cells #[.slice none 0 0, .int .i64 0, .int .i64 0, .int .i64 0, .int .i64 0, .int .i64 0] 81)) #[] 0 (by simp) (by unfold maxLen; omega) rfl
    simp only [World.size_alloc] at this
    exact this
  go_enter Tryz.func56, Tryz.ntmps56
  go_wp2_with fail
  refine (rneed_any _ _ _ _ _ _ _ _ _ _ _ h (hT.keep (below_three _ _ _)) (M.ch 40) (by decide) (by decide)).mono ?_
  rintro e w1 ⟨hb, i1, c1, y1, rfl, h1⟩
  obtain ⟨hP1, hQ1, hE1, hbw1⟩ := three_new hb
  have own1 := ownsRow_below own0 hb
  clear own0 hb hE1
  obtain ⟨x0, x1, x2, x3, x4, x5, xf⟩ := cells6 hP1
  go_wp2_with fail
  have hP2 := set6 hP1 (.slice a ts.length cap) (.int .i64 (i1 : Nat)) (.int .i64 fin) (.int .i64 (n : Nat)) (.int .i64 c1) (.int .i64 y1)
  have hQ2 := kset6 hQ1 (show w.heap.size + 1 ≠ w.heap.size by omega) (.slice a ts.length cap) (.int .i64 (i1 : Nat)) (.int .i64 fin) (.int .i64 (n : Nat)) (.int .i64 c1) (.int .i64 y1)
  have hbw2 := bset6 hbw1 (Nat.le_refl w.heap.size) (.slice a ts.length cap) (.int .i64 (i1 : Nat)) (.int .i64 fin) (.int .i64 (n : Nat)) (.int .i64 c1) (.int .i64 y1)
  have own2 := oset6 own1 (show w.heap.size < w.heap.size + 2 by omega) (.slice a ts.length cap) (.int .i64 (i1 : Nat)) (.int .i64 fin) (.int .i64 (n : Nat)) (.int .i64 c1) (.int .i64 y1)
  generalize hW2 : ((((((w1.setCell ⟨w.heap.size, 0, none⟩ (.slice a ts.length cap)).setCell ⟨w.heap.size, 1, none⟩ (.int .i64 (i1 : Nat))).setCell ⟨w.heap.size, 2, none⟩ (.int .i64 fin)).setCell ⟨w.heap.size, 3, none⟩ (.int .i64 (n : Nat))).setCell ⟨w.heap.size, 4, none⟩ (.int .i64 c1)).setCell ⟨w.heap.size, 5, none⟩ (.int .i64 y1)) = w2 at hP2 hQ2 hbw2 own2 ⊢
  clear hW2 x0 x1 x2 x3 x4 x5 xf hP1 hQ1 hbw1 own1
  refine (ris_any _ _ _ _ _ _ _ _ _ _ _ h1 (hT.keep hbw2) (M.ch 41) (by decide) (by decide)).mono ?_
  rintro e w3 ⟨rfl, hb3⟩
  have hbw3 := hbw2.trans (hb3.mono hbw2.size)
  have hP3 := kept hb3 hP2
  have hQ3 := kept hb3 hQ2
  have own3 := ownsRow_below own2 hb3
  clear hP2 hQ2 own2 hb3 hbw2
  obtain ⟨x0, x1, x2, x3, x4, x5, xf⟩ := cells6 hP3
  cases hk : isR (needR r (M.ch 40)) (M.ch 41)
  · have HL := hid (namesR_loop hk)
    go_wp2_with fail
    clear x0 x1 x2 x3 x4 x5 xf
    go_loopg [4] (mz (needR r (M.ch 40))) (fun k v wr => ∃ rr ii cc yy l, NmIn a cap ts fin d n w wr k v rr ii cc yy l ∧ Hid (namesR r = bindR rr fun S => M.bnd (M.itemName S l) (TL (M.ch 41) M.itemName)))
    case atStart => exact ⟨needR r (M.ch 40), i1, c1, y1, [], ⟨h1, hP3, hQ3, own3, hbw3, Nat.le_refl _, Nat.zero_le _, fun _ => Nat.zero_le _⟩, by unfold Hid; rw [HR.out, HL.out]⟩
    case round =>
      obtain ⟨rr, ii, cc, yy, l, ⟨rs, hP, hQ, own, hbw, hlt, hlen, hlen'⟩, HT⟩ := hrel
      clear hP3 hQ3 own3 hbw3 HL
      have hil := rs.lt
      obtain ⟨x0, x1, x2, x3, x4, x5, xf⟩ := cells6 hP
      go_wp2_with fail
      refine (rok_any _ _ _ _ _ _ _ _ _ _ _ _ rs).mono ?_
      rintro e w3 ⟨rfl, hb3⟩
      have hbw3 := hbw.trans (hb3.mono hbw.size)
      have hP3 := kept hb3 hP
      have hQ3 := kept hb3 hQ
      have own3 := ownsRow_below own hb3
      clear x0 x1 x2 x3 x4 x5 xf hP hQ own hb3
      obtain ⟨x0, x1, x2, x3, x4, x5, xf⟩ := cells6 hP3
      cases hok : okR rr
      · obtain ⟨f, rfl⟩ := okR_no hok
        obtain ⟨q0, q1, q2, q3, q4, q5, qf⟩ := cells6 hQ3
        obtain ⟨av, cv, rfl⟩ := own_form own3
        go_wp2_with fail
        refine bodyPost_ret (v := .tuple #[.agg #[.slice a ts.length cap, .int .i64 (ii : Nat), .int .i64 fin, .int .i64 (n : Nat), .int .i64 cc, .int .i64 yy], .slice av l.length cv]) (by simp [results, Tryz.results56, go_sem, q0, q1, q2, q3, q4, q5]) rfl ⟨?_, ii, cc, yy, _, l, rfl, by rw [HT.out]; exact rs, ?_, fun S' x e => by rw [HT.out] at e; cases e⟩
        · exact bset6 hbw3 (by omega) _ _ _ _ _ _
        · exact SlAt.of_owns (oset6 own3 (by omega) _ _ _ _ _ _) (fun b hb hx => by have : b < w.heap.size := hx; omega) (by omega)
      · obtain ⟨S, rfl⟩ := okR_yes hok
        have hl1 := hlen' hok
        cases gk with
        | zero => simp [mz] at hlt
        | succ k =>
          go_wp2_with fail
          refine (rname_any _ _ _ _ _ _ _ _ _ _ _ rs (hT.keep hbw3)).mono ?_
          rintro e w4 ⟨hb4, i4, c4, y4, s, rfl, h4, hs⟩
          have hbw4 := hbw3.trans (hb4.mono hbw3.size)
          have hP4 := kept hb4 hP3
          have hQ4 := kept hb4 hQ3
          have own4 := ownsRow_below own3 hb4
          have hz4 := hbw4.size
          have hg4 := hlt_ hQ4
          have hi4 := h4.lt
          clear x0 x1 x2 x3 x4 x5 xf hP3 hQ3 own3 hb4
          have HT2 : Hid (namesR r = bindR (stR (nameR (.ok S))) fun S1 => TL (M.ch 41) M.itemName S1 (l ++ [s])) := by
            unfold Hid; rw [HT.out]; exact names_item hs
          have hshort : ∀ S1, stR (nameR (.ok S)) = .ok S1 → S1.rest.length < S.rest.length := fun _ => names_short
          have hm63 : l.length + 1 ≤ maxLen := by unfold maxLen; omega
          have hmby : (l.length + 1) * 16 ≤ 140737488355328 := by omega
          have hob := fun k' hk' => (own4.lt k' hk')
          have hNX : ((w4.alloc (.cells #[.slice a ts.length cap, .int .i64 (i4 : Nat), .int .i64 fin, .int .i64 (n : Nat), .int .i64 c4, .int .i64 y4] 81)).alloc (.cells #[.string s] 9)).heap[w4.heap.size]? = some (.cells #[.slice a ts.length cap, .int .i64 (i4 : Nat), .int .i64 fin, .int .i64 (n : Nat), .int .i64 c4, .int .i64 y4] 81) := by
            exact (Below.heap_alloc _ _ _ (by simp)).trans (heap_alloc_new w4 _)
          have hTM : ((w4.alloc (.cells #[.slice a ts.length cap, .int .i64 (i4 : Nat), .int .i64 fin, .int .i64 (n : Nat), .int .i64 c4, .int .i64 y4] 81)).alloc (.cells #[.string s] 9)).heap[w4.heap.size + 1]? = some (.cells #[.string s] 9) := by
            have := heap_alloc_new (w4.alloc (.cells #[.slice a ts.length cap, .int .i64 (i4 : Nat), .int .i64 fin, .int .i64 (n : Nat), .int .i64 c4, .int .i64 y4] 81)) (.cells #[.string s] 9); simp only [World.size_alloc] at this; exact this
          have hWz : ((w4.alloc (.cells #[.slice a ts.length cap, .int .i64 (i4 : Nat), .int .i64 fin, .int .i64 (n : Nat), .int .i64 c4, .int .i64 y4] 81)).alloc (.cells #[.string s] 9)).heap.size = w4.heap.size + 2 := by simp only [World.size_alloc]
          have hbW : Below w4.heap.size w4 ((w4.alloc (.cells #[.slice a ts.length cap, .int .i64 (i4 : Nat), .int .i64 fin, .int .i64 (n : Nat), .int .i64 c4, .int .i64 y4] 81)).alloc (.cells #[.string s] 9)) := below_two _ _
          go_wp2_with (at_builtin; refine wpList_append_lies _ rfl _ _ 29 rfl (w.heap.size + 2) 9 i0 _ 1 16 Tryz.underlying29 hi0 hz0 hz1 hz2 rfl (by decide) _ _ _ rfl (ownsRow_below own4 hbW) ⟨w4.heap.size + 1, 0, none⟩ 1 1 [.string s] rfl rfl (World.news_of_block (cs := #[.string s]) (t := 9) (fr := (0, 0)) hTM) (by simp [Value.oneCell']) Nat.one_pos hm63 hmby (by rw [hWz]; omega) (w4.heap.size + 2) hWz ?_)
          intro gg cap' w5 hown5 hgrow hat5 hlt5
          have hP5 := kgrow hgrow (kept hbW hP4) (fun k' hk' => by have := hob k' hk'; omega)
          have hQ5 := kgrow hgrow (kept hbW hQ4) (fun k' hk' => by have := hob k' hk'; omega)
          have hX5 := kgrow hgrow hNX (fun k' hk' => by have := hob k' hk'; omega)
          have hbw5 : Below w.heap.size w w5 := bgrow (hbw4.trans (hbW.mono hz4)) hgrow (fun k' hk' => by have := hob k' hk'; omega) (by rw [hWz]; omega)
          have own5 : w5.ownsRow (w.heap.size + 2) 9 1 (.slice (some ⟨gg, 0, none⟩) (l.length + 1) cap') (l ++ [s]).length ((l ++ [s]).map .string) := by
            rw [List.map_append, List.length_append]; exact hown5
          obtain ⟨x0, x1, x2, x3, x4, x5, xf⟩ := cells6 hX5
          obtain ⟨q0, q1, q2, q3, q4, q5, qf⟩ := cells6 hP5
          clear hNX hTM hbW hP4 hQ4 own4 hown5 hat5
          go_wp2_with fail
          have hP6 := set6 hP5 (.slice a ts.length cap) (.int .i64 (i4 : Nat)) (.int .i64 fin) (.int .i64 (n : Nat)) (.int .i64 c4) (.int .i64 y4)
          have hQ6 := kset6 hQ5 (show w.heap.size + 1 ≠ w.heap.size by omega) (.slice a ts.length cap) (.int .i64 (i4 : Nat)) (.int .i64 fin) (.int .i64 (n : Nat)) (.int .i64 c4) (.int .i64 y4)
          have hbw6 := bset6 hbw5 (Nat.le_refl w.heap.size) (.slice a ts.length cap) (.int .i64 (i4 : Nat)) (.int .i64 fin) (.int .i64 (n : Nat)) (.int .i64 c4) (.int .i64 y4)
          have own6 := oset6 own5 (show w.heap.size < w.heap.size + 2 by omega) (.slice a ts.length cap) (.int .i64 (i4 : Nat)) (.int .i64 fin) (.int .i64 (n : Nat)) (.int .i64 c4) (.int .i64 y4)
          generalize hW6 : ((((((w5.setCell ⟨w.heap.size, 0, none⟩ (.slice a ts.length cap)).setCell ⟨w.heap.size, 1, none⟩ (.int .i64 (i4 : Nat))).setCell ⟨w.heap.size, 2, none⟩ (.int .i64 fin)).setCell ⟨w.heap.size, 3, none⟩ (.int .i64 (n : Nat))).setCell ⟨w.heap.size, 4, none⟩ (.int .i64 c4)).setCell ⟨w.heap.size, 5, none⟩ (.int .i64 y4)) = w6 at hP6 hQ6 hbw6 own6 ⊢
          clear hW6 x0 x1 x2 x3 x4 x5 xf q0 q1 q2 q3 q4 q5 qf hP5 hQ5 hbw5 own5 hX5 hgrow hlt5
          refine (ris_any _ _ _ _ _ _ _ _ _ _ _ h4 (hT.keep hbw6) (M.ch 41) (by decide) (by decide)).mono ?_
          rintro e w7 ⟨rfl, hb7⟩
          have hbw7 := hbw6.trans (hb7.mono hbw6.size)
          have hP7 := kept hb7 hP6
          have hQ7 := kept hb7 hQ6
          have own7 := ownsRow_below own6 hb7
          clear hP6 hQ6 own6 hb7
          obtain ⟨x0, x1, x2, x3, x4, x5, xf⟩ := cells6 hP7
          cases hk2 : isR (stR (nameR (.ok S))) (M.ch 41)
          · have HT3 : Hid (namesR r = bindR (needR (stR (nameR (.ok S))) (M.ch 44)) fun S => M.bnd (M.itemName S (l ++ [s])) (TL (M.ch 41) M.itemName)) := by
              unfold Hid; rw [HT2.out]; exact TL_step names_it_short hk2
            go_wp2_with fail
            refine (rneed_any _ _ _ _ _ _ _ _ _ _ _ h4 (hT.keep hbw7) (M.ch 44) (by decide) (by decide)).mono ?_
            rintro e w8 ⟨hb8, i8, c8, y8, rfl, h8⟩
            have hbw8 := hbw7.trans (hb8.mono hbw7.size)
            have hP8 := kept hb8 hP7
            have hQ8 := kept hb8 hQ7
            have own8 := ownsRow_below own7 hb8
            clear x0 x1 x2 x3 x4 x5 xf hP7 hQ7 own7 hb8
            obtain ⟨x0, x1, x2, x3, x4, x5, xf⟩ := cells6 hP8
            go_wp2_with fail
            have hmz := mz_need (t := M.ch 44) (by decide) hshort
            have hkk : S.rest.length ≤ k := by simp only [mz] at hlt; omega
            go_roundg k
            case measure => omega
            case rel =>
              refine ⟨needR (stR (nameR (.ok S))) (M.ch 44), i8, c8, y8, l ++ [s], ⟨h8, set6 hP8 _ _ _ _ _ _, kset6 hQ8 (by omega) _ _ _ _ _ _, oset6 own8 (by omega) _ _ _ _ _ _, bset6 hbw8 (Nat.le_refl _) _ _ _ _ _ _, by omega, by simp; omega, fun ho => ?_⟩, HT3⟩
              obtain ⟨S8, e8⟩ := okR_yes ho
              obtain ⟨S1, e1, l8⟩ := hmz.2 S8 e8
              have l1 := hshort S1 e1
              rw [e8] at h8
              rw [e1] at h4
              have j8 := h8.idx.1
              have j4 := h4.idx.1
              have j0 := rs.idx.1
              simp only [List.length_append, List.length_cons, List.length_nil]
              omega
          · obtain ⟨S1, e1⟩ := isR_ok hk2
            have HT3 : Hid (namesR r = .ok (S1.adv, l ++ [s])) := by
              unfold Hid; rw [HT2.out, e1]; rw [e1] at hk2; exact TL_last hk2 (by decide)
            have HN : Hid (needR (stR (nameR (.ok S))) (M.ch 41) = .ok S1.adv) := by
              unfold Hid; rw [e1] at hk2 ⊢; exact needR_yes hk2
            go_wp2_with fail
            refine (rneed_any _ _ _ _ _ _ _ _ _ _ _ h4 (hT.keep hbw7) (M.ch 41) (by decide) (by decide)).mono ?_
            rintro e w8 ⟨hb8, i8, c8, y8, rfl, h8⟩
            have hbw8 := hbw7.trans (hb8.mono hbw7.size)
            have hQ8 := kept hb8 hQ7
            have own8 := ownsRow_below own7 hb8
            clear x0 x1 x2 x3 x4 x5 xf hP7 hQ7 own7 hb8
            obtain ⟨q0, q1, q2, q3, q4, q5, qf⟩ := cells6 hQ8
            go_wp2_with fail
            refine bodyPost_ret (v := .tuple #[.agg #[.slice a ts.length cap, .int .i64 (i8 : Nat), .int .i64 fin, .int .i64 (n : Nat), .int .i64 c8, .int .i64 y8], .slice (some ⟨gg, 0, none⟩) (l.length + 1) cap']) (by simp [results, Tryz.results56, go_sem, q0, q1, q2, q3, q4, q5]) rfl ⟨?_, i8, c8, y8, _, l ++ [s], rfl, ?_, ?_, fun S' x e => by rw [HT3.out] at e; cases e; rfl⟩
            · exact bset6 hbw8 (by omega) _ _ _ _ _ _
            · rw [HT3.out]; rw [HN.out] at h8; exact h8
            · exact SlAt.of_owns (oset6 own8 (by omega) _ _ _ _ _ _) (fun b hb hx => by have : b < w.heap.size := hx; omega) (by simp; omega)
  · obtain ⟨S1, e1⟩ := isR_ok hk
    have HT3 : Hid (namesR r = .ok (S1.adv, [])) := by
      unfold Hid; rw [HR.out, e1]; rw [e1] at hk; exact list_none hk
    have HN : Hid (needR (needR r (M.ch 40)) (M.ch 41) = .ok S1.adv) := by
      unfold Hid; rw [e1] at hk ⊢; exact needR_yes hk
    go_wp2_with fail
    refine (rneed_any _ _ _ _ _ _ _ _ _ _ _ h1 (hT.keep hbw3) (M.ch 41) (by decide) (by decide)).mono ?_
    rintro e w8 ⟨hb8, i8, c8, y8, rfl, h8⟩
    have hbw8 := hbw3.trans (hb8.mono hbw3.size)
    have hQ8 := kept hb8 hQ3
    have own8 := ownsRow_below own3 hb8
    clear x0 x1 x2 x3 x4 x5 xf hP3 hQ3 own3 hb8
    obtain ⟨q0, q1, q2, q3, q4, q5, qf⟩ := cells6 hQ8
    go_wp2_with fail
    refine bodyPost_ret (v := .tuple #[.agg #[.slice a ts.length cap, .int .i64 (i8 : Nat), .int .i64 fin, .int .i64 (n : Nat), .int .i64 c8, .int .i64 y8], .slice (some ⟨w.heap.size + 2, 0, none⟩) 0 0]) (by simp [results, Tryz.results56, go_sem, q0, q1, q2, q3, q4, q5]) rfl ⟨?_, i8, c8, y8, _, [], rfl, ?_, ?_, fun S' x e => by rw [HT3.out] at e; cases e; rfl⟩
    · exact bset6 hbw8 (by omega) _ _ _ _ _ _
    · rw [HT3.out]; rw [HN.out] at h8; exact h8
    · exact SlAt.of_owns (oset6 own8 (by omega) _ _ _ _ _ _) (fun b hb hx => by have : b < w.heap.size := hx; omega) (Nat.zero_le _)
end Go.Proofs.YtkpmpnebmkeocaaGreatDoor
end
section
namespace Go.Proofs.YtkpmpnebmkeocaaGreatDoor
open Go.RowKit


def argsR (r : RSt) : M.Res (List M.Opd) := bindR r fun S => M.bnd (M.take S (M.ch 40)) fun S1 _ => M.list (M.ch 41) M.itemOp S1 []
theorem argsR_eq (r : RSt) : argsR r = bindR (needR r (M.ch 40)) fun S1 => M.list (M.ch 41) M.itemOp S1 [] := by
  cases r with
  | error f => rfl
  | ok S =>
    simp only [argsR, needR, bindR]
    cases M.take S (M.ch 40) with
    | error e => rfl
    | ok p => rfl
theorem argsR_loop {r : RSt} (h : isR r (M.ch 41) = false) : bindR r (fun S1 => M.list (M.ch 41) M.itemOp S1 []) = bindR r fun S => M.bnd (M.itemOp S []) (TL (M.ch 41) M.itemOp) := by
  cases r with
  | error f => rfl
  | ok S => exact list_eq h
theorem args_short {S S1 : M.St} (h : stR (operandR (.ok S)) = .ok S1) : S1.rest.length < S.rest.length := by
  have e : operandR (.ok S) = M.operand S := rfl
  rw [e] at h
  cases hn : M.operand S with
  | error e => rw [hn] at h; cases h
  | ok p => rw [hn] at h; cases h; exact M.operand_short hn
theorem args_item {S : M.St} {l : List M.Opd} {x : M.Opd} {last : ByteArray} (hs : ∀ S' x', operandR (.ok S) = .ok (S', x') → x = x') :
    bindR (.ok S) (fun S => M.bnd (M.itemOp S l) (TL last M.itemOp)) = bindR (stR (operandR (.ok S))) fun S1 => TL last M.itemOp S1 (l ++ [x]) := by
  have e : operandR (.ok S) = M.operand S := rfl
  rw [e] at hs ⊢
  show M.bnd (M.itemOp S l) _ = _
  unfold M.itemOp
  cases hn : M.operand S with
  | error e => rfl
  | ok p => obtain rfl := hs p.1 p.2 hn; rfl
theorem args_it_short (S : M.St) (b : List M.Opd) (S' : M.St) (b' : List M.Opd) (h : M.itemOp S b = .ok (S', b')) : S'.rest.length < S.rest.length := by
  unfold M.itemOp at h
  obtain ⟨S1, x, h1, h2⟩ := M.bnd_ok h
  cases h2
  exact M.operand_short h1

structure ArIn (a : Option Addr) (cap : Nat) (ts : List M.Tok) (fin : Int) (d n : Nat) (w wr : World) (k : Nat) (v : Value) (r : RSt) (i : Nat) (c y : Int) (l : List M.Opd) : Prop where
  rs : RS ts fin d r i n c y
  box : wr.heap[w.heap.size]? = some (.cells #[.slice a ts.length cap, .int .i64 (i : Nat), .int .i64 fin, .int .i64 (n : Nat), .int .i64 c, .int .i64 y] 81 (0, 0))
  res : wr.heap[w.heap.size + 1]? = some (.cells #[.slice none 0 0, .int .i64 0, .int .i64 0, .int .i64 0, .int .i64 0, .int .i64 0] 81 (0, 0))
  own : wr.ownsRow (w.heap.size + 2) 47 3 v l.length (l.flatMap opCells)
  bel : Below w.heap.size w wr
  lt : mz r ≤ k
  len : l.length ≤ ts.length + 1
  len' : okR r = true → l.length ≤ i

set_option maxRecDepth 8000 in
set_option maxHeartbeats 3200000 in
theorem rargs_any (a : Option Addr) (cap : Nat) (ts : List M.Tok) (fin : Int) (d : Nat) (r : RSt) (i n : Nat) (c y : Int) (w : World) (h : RS ts fin d r i n c y) (hT : TokAt w (.slice a ts.length cap) ts) (hfew : ts.length ≤ 4398046511000) :
    Calls Tryz.prog 100 #[.agg #[.slice a ts.length cap, .int .i64 (i : Nat), .int .i64 fin, .int .i64 (n : Nat), .int .i64 c, .int .i64 y]] w fun e w' => Below w.heap.size w w' ∧ ∃ (i' : Nat) (c' y' : Int) (v : Value) (l : List M.Opd), e = .returned (.tuple #[.agg #[.slice a ts.length cap, .int .i64 (i' : Nat), .int .i64 fin, .int .i64 (n : Nat), .int .i64 c', .int .i64 y'], v]) ∧ RS ts fin d (stR (argsR r)) i' n c' y' ∧ OpsAt w' (Old w) v l ∧ ∀ S' x, argsR r = .ok (S', x) → l = x := by
  have hi := h.lt
  have hn2 := h.lim
  obtain ⟨i0, hi0, hz0, hz1, hz2⟩ := info_parts infoOpd
  have HR := hid (argsR_eq r)
  have own0 : (((w.alloc (.cells #[.slice a ts.length cap, .int .i64 (i : Nat), .int .i64 fin, .int .i64 (n : Nat), .int .i64 c, .int .i64 y] 81)).alloc (.cells #[.slice none 0 0, .int .i64 0, .int .i64 0, .int .i64 0, .int .i64 0, .int .i64 0] 81)).alloc (.cells #[] 47)).ownsRow (w.heap.size + 2) 47 3 (.slice (some ⟨w.heap.size + 2, 0, none⟩) 0 0) 0 [] := by
    have := World.ownsRow_made (base := w.heap.size + 2) (e := 47) (size := 3) ((w.alloc (.cells #[.slice a ts.length cap, .int .i64 (i : Nat), .int .i64 fin, .int .i64 (n : Nat), .int .i64 c, .int .i64 y] 81)).alloc (.cells #[.slice none 0 0, .int .i64 0, .int .i64 0, .int .i64 0, .int .i64 0, .int .i64 0] 81)) #[] 0 (by simp) (by unfold maxLen; omega) rfl
    simp only [World.size_alloc] at this
    exact this
  go_enter Tryz.func100, Tryz.ntmps100
  go_wp2_with fail
  refine (rneed_any _ _ _ _ _ _ _ _ _ _ _ h (hT.keep (below_three _ _ _)) (M.ch 40) (by decide) (by decide)).mono ?_
  rintro e w1 ⟨hb, i1, c1, y1, rfl, h1⟩
  obtain ⟨hP1, hQ1, hE1, hbw1⟩ := three_new hb
  have own1 := ownsRow_below own0 hb
  clear own0 hb hE1
  obtain ⟨x0, x1, x2, x3, x4, x5, xf⟩ := cells6 hP1
  go_wp2_with fail
  have hP2 := set6 hP1 (.slice a ts.length cap) (.int .i64 (i1 : Nat)) (.int .i64 fin) (.int .i64 (n : Nat)) (.int .i64 c1) (.int .i64 y1)
  have hQ2 := kset6 hQ1 (show w.heap.size + 1 ≠ w.heap.size by omega) (.slice a ts.length cap) (.int .i64 (i1 : Nat)) (.int .i64 fin) (.int .i64 (n : Nat)) (.int .i64 c1) (.int .i64 y1)
  have hbw2 := bset6 hbw1 (Nat.le_refl w.heap.size) (.slice a ts.length cap) (.int .i64 (i1 : Nat)) (.int .i64 fin) (.int .i64 (n : Nat)) (.int .i64 c1) (.int .i64 y1)
  have own2 := oset6 own1 (show w.heap.size < w.heap.size + 2 by omega) (.slice a ts.length cap) (.int .i64 (i1 : Nat)) (.int .i64 fin) (.int .i64 (n : Nat)) (.int .i64 c1) (.int .i64 y1)
  generalize hW2 : ((((((w1.setCell ⟨w.heap.size, 0, none⟩ (.slice a ts.length cap)).setCell ⟨w.heap.size, 1, none⟩ (.int .i64 (i1 : Nat))).setCell ⟨w.heap.size, 2, none⟩ (.int .i64 fin)).setCell ⟨w.heap.size, 3, none⟩ (.int .i64 (n : Nat))).setCell ⟨w.heap.size, 4, none⟩ (.int .i64 c1)).setCell ⟨w.heap.size, 5, none⟩ (.int .i64 y1)) = w2 at hP2 hQ2 hbw2 own2 ⊢
  clear hW2 x0 x1 x2 x3 x4 x5 xf hP1 hQ1 hbw1 own1
  refine (ris_any _ _ _ _ _ _ _ _ _ _ _ h1 (hT.keep hbw2) (M.ch 41) (by decide) (by decide)).mono ?_
  rintro e w3 ⟨rfl, hb3⟩
  have hbw3 := hbw2.trans (hb3.mono hbw2.size)
  have hP3 := kept hb3 hP2
  have hQ3 := kept hb3 hQ2
  have own3 := ownsRow_below own2 hb3
  clear hP2 hQ2 own2 hb3 hbw2
  obtain ⟨x0, x1, x2, x3, x4, x5, xf⟩ := cells6 hP3
  cases hk : isR (needR r (M.ch 40)) (M.ch 41)
  · have HL := hid (argsR_loop hk)
    go_wp2_with fail
    clear x0 x1 x2 x3 x4 x5 xf
    go_loopg [4] (mz (needR r (M.ch 40))) (fun k v wr => ∃ rr ii cc yy l, ArIn a cap ts fin d n w wr k v rr ii cc yy l ∧ Hid (argsR r = bindR rr fun S => M.bnd (M.itemOp S l) (TL (M.ch 41) M.itemOp)))
    case atStart => exact ⟨needR r (M.ch 40), i1, c1, y1, [], ⟨h1, hP3, hQ3, own3, hbw3, Nat.le_refl _, Nat.zero_le _, fun _ => Nat.zero_le _⟩, by unfold Hid; rw [HR.out, HL.out]⟩
    case round =>
      obtain ⟨rr, ii, cc, yy, l, ⟨rs, hP, hQ, own, hbw, hlt, hlen, hlen'⟩, HT⟩ := hrel
      clear hP3 hQ3 own3 hbw3 HL
      have hil := rs.lt
      obtain ⟨x0, x1, x2, x3, x4, x5, xf⟩ := cells6 hP
      go_wp2_with fail
      refine (rok_any _ _ _ _ _ _ _ _ _ _ _ _ rs).mono ?_
      rintro e w3 ⟨rfl, hb3⟩
      have hbw3 := hbw.trans (hb3.mono hbw.size)
      have hP3 := kept hb3 hP
      have hQ3 := kept hb3 hQ
      have own3 := ownsRow_below own hb3
      clear x0 x1 x2 x3 x4 x5 xf hP hQ own hb3
      obtain ⟨x0, x1, x2, x3, x4, x5, xf⟩ := cells6 hP3
      cases hok : okR rr
      · obtain ⟨f, rfl⟩ := okR_no hok
        obtain ⟨q0, q1, q2, q3, q4, q5, qf⟩ := cells6 hQ3
        obtain ⟨av, cv, rfl⟩ := own_form own3
        go_wp2_with fail
        refine bodyPost_ret (v := .tuple #[.agg #[.slice a ts.length cap, .int .i64 (ii : Nat), .int .i64 fin, .int .i64 (n : Nat), .int .i64 cc, .int .i64 yy], .slice av l.length cv]) (by simp [results, Tryz.results100, go_sem, q0, q1, q2, q3, q4, q5]) rfl ⟨?_, ii, cc, yy, _, l, rfl, by rw [HT.out]; exact rs, ?_, fun S' x e => by rw [HT.out] at e; cases e⟩
        · exact bset6 hbw3 (by omega) _ _ _ _ _ _
        · exact SlAt.of_owns (oset6 own3 (by omega) _ _ _ _ _ _) (fun b hb hx => by have : b < w.heap.size := hx; omega) (by omega)
      · obtain ⟨S, rfl⟩ := okR_yes hok
        have hl1 := hlen' hok
        cases gk with
        | zero => simp [mz] at hlt
        | succ k =>
          go_wp2_with fail
          refine (roperand_any _ _ _ _ _ _ _ _ _ _ _ rs (hT.keep hbw3)).mono ?_
          rintro e w4 ⟨hb4, i4, c4, y4, o, rfl, h4, hs⟩
          have hbw4 := hbw3.trans (hb4.mono hbw3.size)
          have hP4 := kept hb4 hP3
          have hQ4 := kept hb4 hQ3
          have own4 := ownsRow_below own3 hb4
          have hz4 := hbw4.size
          have hg4 := hlt_ hQ4
          have hi4 := h4.lt
          clear x0 x1 x2 x3 x4 x5 xf hP3 hQ3 own3 hb4
          have HT2 : Hid (argsR r = bindR (stR (operandR (.ok S))) fun S1 => TL (M.ch 41) M.itemOp S1 (l ++ [o])) := by
            unfold Hid; rw [HT.out]; exact args_item hs
          have hshort : ∀ S1, stR (operandR (.ok S)) = .ok S1 → S1.rest.length < S.rest.length := fun _ => args_short
          have hm63 : l.length + 1 ≤ maxLen := by unfold maxLen; omega
          have hmby : (l.length + 1) * 32 ≤ 140737488355328 := by omega
          have hob := fun k' hk' => (own4.lt k' hk')
          have hNX : (((w4.alloc (.cells #[.slice a ts.length cap, .int .i64 (i4 : Nat), .int .i64 fin, .int .i64 (n : Nat), .int .i64 c4, .int .i64 y4] 81)).alloc (.cells #[.int .i64 o.k, .int .i64 o.n, .string o.s] 47)).alloc (.cells #[.int .i64 o.k, .int .i64 o.n, .string o.s] 47)).heap[w4.heap.size]? = some (.cells #[.slice a ts.length cap, .int .i64 (i4 : Nat), .int .i64 fin, .int .i64 (n : Nat), .int .i64 c4, .int .i64 y4] 81) := by
            exact (Below.heap_alloc _ _ _ (by simp; omega)).trans ((Below.heap_alloc _ _ _ (by simp)).trans (heap_alloc_new w4 _))
          have hTM : (((w4.alloc (.cells #[.slice a ts.length cap, .int .i64 (i4 : Nat), .int .i64 fin, .int .i64 (n : Nat), .int .i64 c4, .int .i64 y4] 81)).alloc (.cells #[.int .i64 o.k, .int .i64 o.n, .string o.s] 47)).alloc (.cells #[.int .i64 o.k, .int .i64 o.n, .string o.s] 47)).heap[w4.heap.size + 2]? = some (.cells #[.int .i64 o.k, .int .i64 o.n, .string o.s] 47) := by
            have := heap_alloc_new ((w4.alloc (.cells #[.slice a ts.length cap, .int .i64 (i4 : Nat), .int .i64 fin, .int .i64 (n : Nat), .int .i64 c4, .int .i64 y4] 81)).alloc (.cells #[.int .i64 o.k, .int .i64 o.n, .string o.s] 47)) (.cells #[.int .i64 o.k, .int .i64 o.n, .string o.s] 47); simp only [World.size_alloc] at this; exact this
          have hWz : (((w4.alloc (.cells #[.slice a ts.length cap, .int .i64 (i4 : Nat), .int .i64 fin, .int .i64 (n : Nat), .int .i64 c4, .int .i64 y4] 81)).alloc (.cells #[.int .i64 o.k, .int .i64 o.n, .string o.s] 47)).alloc (.cells #[.int .i64 o.k, .int .i64 o.n, .string o.s] 47)).heap.size = w4.heap.size + 3 := by simp only [World.size_alloc]
          have hbW : Below w4.heap.size w4 (((w4.alloc (.cells #[.slice a ts.length cap, .int .i64 (i4 : Nat), .int .i64 fin, .int .i64 (n : Nat), .int .i64 c4, .int .i64 y4] 81)).alloc (.cells #[.int .i64 o.k, .int .i64 o.n, .string o.s] 47)).alloc (.cells #[.int .i64 o.k, .int .i64 o.n, .string o.s] 47)) := below_three _ _ _
          go_wp2_with (at_builtin; refine wpList_append_lies _ rfl _ _ 28 rfl (w.heap.size + 2) 47 i0 _ 3 32 Tryz.underlying28 hi0 hz0 hz1 hz2 rfl (by decide) _ _ _ rfl (ownsRow_below own4 hbW) ⟨w4.heap.size + 2, 0, none⟩ 1 1 [.int .i64 o.k, .int .i64 o.n, .string o.s] rfl rfl (World.news_of_block (cs := #[.int .i64 o.k, .int .i64 o.n, .string o.s]) (t := 47) (fr := (0, 0)) hTM) (by simp [Value.oneCell']) Nat.one_pos hm63 hmby (by rw [hWz]; omega) (w4.heap.size + 3) hWz ?_)
          intro gg cap' w5 hown5 hgrow hat5 hlt5
          have hP5 := kgrow hgrow (kept hbW hP4) (fun k' hk' => by have := hob k' hk'; omega)
          have hQ5 := kgrow hgrow (kept hbW hQ4) (fun k' hk' => by have := hob k' hk'; omega)
          have hX5 := kgrow hgrow hNX (fun k' hk' => by have := hob k' hk'; omega)
          have hbw5 : Below w.heap.size w w5 := bgrow (hbw4.trans (hbW.mono hz4)) hgrow (fun k' hk' => by have := hob k' hk'; omega) (by rw [hWz]; omega)
          have own5 : w5.ownsRow (w.heap.size + 2) 47 3 (.slice (some ⟨gg, 0, none⟩) (l.length + 1) cap') (l ++ [o]).length ((l ++ [o]).flatMap opCells) := by
            rw [List.flatMap_append, List.length_append]; exact hown5
          obtain ⟨x0, x1, x2, x3, x4, x5, xf⟩ := cells6 hX5
          obtain ⟨q0, q1, q2, q3, q4, q5, qf⟩ := cells6 hP5
          clear hNX hTM hbW hP4 hQ4 own4 hown5 hat5
          go_wp2_with fail
          have hP6 := set6 hP5 (.slice a ts.length cap) (.int .i64 (i4 : Nat)) (.int .i64 fin) (.int .i64 (n : Nat)) (.int .i64 c4) (.int .i64 y4)
          have hQ6 := kset6 hQ5 (show w.heap.size + 1 ≠ w.heap.size by omega) (.slice a ts.length cap) (.int .i64 (i4 : Nat)) (.int .i64 fin) (.int .i64 (n : Nat)) (.int .i64 c4) (.int .i64 y4)
          have hbw6 := bset6 hbw5 (Nat.le_refl w.heap.size) (.slice a ts.length cap) (.int .i64 (i4 : Nat)) (.int .i64 fin) (.int .i64 (n : Nat)) (.int .i64 c4) (.int .i64 y4)
          have own6 := oset6 own5 (show w.heap.size < w.heap.size + 2 by omega) (.slice a ts.length cap) (.int .i64 (i4 : Nat)) (.int .i64 fin) (.int .i64 (n : Nat)) (.int .i64 c4) (.int .i64 y4)
          generalize hW6 : ((((((w5.setCell ⟨w.heap.size, 0, none⟩ (.slice a ts.length cap)).setCell ⟨w.heap.size, 1, none⟩ (.int .i64 (i4 : Nat))).setCell ⟨w.heap.size, 2, none⟩ (.int .i64 fin)).setCell ⟨w.heap.size, 3, none⟩ (.int .i64 (n : Nat))).setCell ⟨w.heap.size, 4, none⟩ (.int .i64 c4)).setCell ⟨w.heap.size, 5, none⟩ (.int .i64 y4)) = w6 at hP6 hQ6 hbw6 own6 ⊢
          clear hW6 x0 x1 x2 x3 x4 x5 xf q0 q1 q2 q3 q4 q5 qf hP5 hQ5 hbw5 own5 hX5 hgrow hlt5
          refine (ris_any _ _ _ _ _ _ _ _ _ _ _ h4 (hT.keep hbw6) (M.ch 41) (by decide) (by decide)).mono ?_
          rintro e w7 ⟨rfl, hb7⟩
          have hbw7 := hbw6.trans (hb7.mono hbw6.size)
          have hP7 := kept hb7 hP6
          have hQ7 := kept hb7 hQ6
          have own7 := ownsRow_below own6 hb7
          clear hP6 hQ6 own6 hb7
          obtain ⟨x0, x1, x2, x3, x4, x5, xf⟩ := cells6 hP7
          cases hk2 : isR (stR (operandR (.ok S))) (M.ch 41)
          · have HT3 : Hid (argsR r = bindR (needR (stR (operandR (.ok S))) (M.ch 44)) fun S => M.bnd (M.itemOp S (l ++ [o])) (TL (M.ch 41) M.itemOp)) := by
              unfold Hid; rw [HT2.out]; exact TL_step args_it_short hk2
            go_wp2_with fail
            refine (rneed_any _ _ _ _ _ _ _ _ _ _ _ h4 (hT.keep hbw7) (M.ch 44) (by decide) (by decide)).mono ?_
            rintro e w8 ⟨hb8, i8, c8, y8, rfl, h8⟩
            have hbw8 := hbw7.trans (hb8.mono hbw7.size)
            have hP8 := kept hb8 hP7
            have hQ8 := kept hb8 hQ7
            have own8 := ownsRow_below own7 hb8
            clear x0 x1 x2 x3 x4 x5 xf hP7 hQ7 own7 hb8
            obtain ⟨x0, x1, x2, x3, x4, x5, xf⟩ := cells6 hP8
            go_wp2_with fail
            have hmz := mz_need (t := M.ch 44) (by decide) hshort
            have hkk : S.rest.length ≤ k := by simp only [mz] at hlt; omega
            go_roundg k
            case measure => omega
            case rel =>
              refine ⟨needR (stR (operandR (.ok S))) (M.ch 44), i8, c8, y8, l ++ [o], ⟨h8, set6 hP8 _ _ _ _ _ _, kset6 hQ8 (by omega) _ _ _ _ _ _, oset6 own8 (by omega) _ _ _ _ _ _, bset6 hbw8 (Nat.le_refl _) _ _ _ _ _ _, by omega, by simp; omega, fun ho => ?_⟩, HT3⟩
              obtain ⟨S8, e8⟩ := okR_yes ho
              obtain ⟨S1, e1, l8⟩ := hmz.2 S8 e8
              have l1 := hshort S1 e1
              rw [e8] at h8
              rw [e1] at h4
              have j8 := h8.idx.1
              have j4 := h4.idx.1
              have j0 := rs.idx.1
              simp only [List.length_append, List.length_cons, List.length_nil]
              omega
          · obtain ⟨S1, e1⟩ := isR_ok hk2
            have HT3 : Hid (argsR r = .ok (S1.adv, l ++ [o])) := by
              unfold Hid; rw [HT2.out, e1]; rw [e1] at hk2; exact TL_last hk2 (by decide)
            have HN : Hid (needR (stR (operandR (.ok S))) (M.ch 41) = .ok S1.adv) := by
              unfold Hid; rw [e1] at hk2 ⊢; exact needR_yes hk2
            go_wp2_with fail
            refine (rneed_any _ _ _ _ _ _ _ _ _ _ _ h4 (hT.keep hbw7) (M.ch 41) (by decide) (by decide)).mono ?_
            rintro e w8 ⟨hb8, i8, c8, y8, rfl, h8⟩
            have hbw8 := hbw7.trans (hb8.mono hbw7.size)
            have hQ8 := kept hb8 hQ7
            have own8 := ownsRow_below own7 hb8
            clear x0 x1 x2 x3 x4 x5 xf hP7 hQ7 own7 hb8
            obtain ⟨q0, q1, q2, q3, q4, q5, qf⟩ := cells6 hQ8
            go_wp2_with fail
            refine bodyPost_ret (v := .tuple #[.agg #[.slice a ts.length cap, .int .i64 (i8 : Nat), .int .i64 fin, .int .i64 (n : Nat), .int .i64 c8, .int .i64 y8], .slice (some ⟨gg, 0, none⟩) (l.length + 1) cap']) (by simp [results, Tryz.results100, go_sem, q0, q1, q2, q3, q4, q5]) rfl ⟨?_, i8, c8, y8, _, l ++ [o], rfl, ?_, ?_, fun S' x e => by rw [HT3.out] at e; cases e; rfl⟩
            · exact bset6 hbw8 (by omega) _ _ _ _ _ _
            · rw [HT3.out]; rw [HN.out] at h8; exact h8
            · exact SlAt.of_owns (oset6 own8 (by omega) _ _ _ _ _ _) (fun b hb hx => by have : b < w.heap.size := hx; omega) (by simp; omega)
  · obtain ⟨S1, e1⟩ := isR_ok hk
    have HT3 : Hid (argsR r = .ok (S1.adv, [])) := by
      unfold Hid; rw [HR.out, e1]; rw [e1] at hk; exact list_none hk
    have HN : Hid (needR (needR r (M.ch 40)) (M.ch 41) = .ok S1.adv) := by
      unfold Hid; rw [e1] at hk ⊢; exact needR_yes hk
    go_wp2_with fail
    refine (rneed_any _ _ _ _ _ _ _ _ _ _ _ h1 (hT.keep hbw3) (M.ch 41) (by decide) (by decide)).mono ?_
    rintro e w8 ⟨hb8, i8, c8, y8, rfl, h8⟩
    have hbw8 := hbw3.trans (hb8.mono hbw3.size)
    have hQ8 := kept hb8 hQ3
    have own8 := ownsRow_below own3 hb8
    clear x0 x1 x2 x3 x4 x5 xf hP3 hQ3 own3 hb8
    obtain ⟨q0, q1, q2, q3, q4, q5, qf⟩ := cells6 hQ8
    go_wp2_with fail
    refine bodyPost_ret (v := .tuple #[.agg #[.slice a ts.length cap, .int .i64 (i8 : Nat), .int .i64 fin, .int .i64 (n : Nat), .int .i64 c8, .int .i64 y8], .slice (some ⟨w.heap.size + 2, 0, none⟩) 0 0]) (by simp [results, Tryz.results100, go_sem, q0, q1, q2, q3, q4, q5]) rfl ⟨?_, i8, c8, y8, _, [], rfl, ?_, ?_, fun S' x e => by rw [HT3.out] at e; cases e; rfl⟩
    · exact bset6 hbw8 (by omega) _ _ _ _ _ _
    · rw [HT3.out]; rw [HN.out] at h8; exact h8
    · exact SlAt.of_owns (oset6 own8 (by omega) _ _ _ _ _ _) (fun b hb hx => by have : b < w.heap.size := hx; omega) (Nat.zero_le _)
end Go.Proofs.YtkpmpnebmkeocaaGreatDoor
end
section
namespace Go.Proofs.YtkpmpnebmkeocaaGreatDoor
open Go.RowKit

theorem four_new {w w1 : World} {A B C D : Obj} (hb : Below ((((w.alloc A).alloc B).alloc C).alloc D).heap.size ((((w.alloc A).alloc B).alloc C).alloc D) w1) : w1.heap[w.heap.size]? = some A ∧ w1.heap[w.heap.size + 1]? = some B ∧ w1.heap[w.heap.size + 1 + 1]? = some C ∧ w1.heap[w.heap.size + 1 + 1 + 1]? = some D ∧ Below w.heap.size w w1 := by
  have h0 := heap_alloc_new w A
  have hN := heap_alloc_new (w.alloc A) B
  have hM := heap_alloc_new ((w.alloc A).alloc B) C
  have hL := heap_alloc_new (((w.alloc A).alloc B).alloc C) D
  simp only [World.size_alloc] at hN hM hL
  refine ⟨kept hb ((Below.heap_alloc _ _ _ (by first | (simp; done) | (simp; omega))).trans ((Below.heap_alloc _ _ _ (by first | (simp; done) | (simp; omega))).trans ((Below.heap_alloc _ _ _ (by first | (simp; done) | (simp; omega))).trans h0))), kept hb ((Below.heap_alloc _ _ _ (by first | (simp; done) | (simp; omega))).trans ((Below.heap_alloc _ _ _ (by first | (simp; done) | (simp; omega))).trans hN)), kept hb ((Below.heap_alloc _ _ _ (by first | (simp; done) | (simp; omega))).trans hM), kept hb hL, ?_⟩
  exact (((((Below.refl _ _).alloc (Nat.le_refl _) _).alloc (by simp) _).alloc (by simp; omega) _).alloc (by simp; omega) _).trans (hb.mono (by simp; omega))
theorem below_four {w : World} (A B C D : Obj) : Below w.heap.size w ((((w.alloc A).alloc B).alloc C).alloc D) := ((((Below.refl _ _).alloc (Nat.le_refl _) _).alloc (by simp) _).alloc (by simp; omega) _).alloc (by simp; omega) _

def objectR (r : RSt) : M.Res M.Val := bindR r M.object
def objK (ps : List ByteArray) (os : List M.Opd) (S : M.St) : M.Res M.Val := M.bnd (M.take S M.kProto) fun S3 _ => M.bnd (M.operand S3) fun S4 o => .ok (S4, ⟨4, M.em, M.em, os ++ [o], ps⟩)
def objNext (dn : Bool) (r : RSt) (ps : List ByteArray) (os : List M.Opd) : M.Res M.Val :=
  if dn = true then bindR (needR r (M.ch 125)) (objK ps os)
  else bindR r fun S => M.bnd (M.bnd (M.itemProp S (ps, os)) (TL (M.ch 125) M.itemProp)) fun S2 l => objK l.1 l.2 S2
theorem bnd_bindR {α β : Type} (r : RSt) (f : M.St → M.Res α) (g : M.St → α → M.Res β) : M.bnd (bindR r f) g = bindR r fun S => M.bnd (f S) g := by cases r <;> rfl
theorem bindR_need {α : Type} (r : RSt) (t : ByteArray) (f : M.St → M.Res α) : bindR (needR r t) f = bindR r fun S => M.bnd (M.take S t) fun S1 _ => f S1 := by
  cases r with
  | error e => rfl
  | ok S =>
    simp only [needR, bindR]
    cases M.take S t <;> rfl
theorem objectR_eq (r : RSt) : objectR r = objNext (isR (needR r (M.ch 123)) (M.ch 125)) (needR r (M.ch 123)) [] [] := by
  have e : objectR r = bindR (needR r (M.ch 123)) fun S1 => M.bnd (M.list (M.ch 125) M.itemProp S1 ([], [])) fun S2 l => objK l.1 l.2 S2 := by
    rw [bindR_need]; rfl
  rw [e]
  cases h : isR (needR r (M.ch 123)) (M.ch 125)
  · unfold objNext
    rw [if_neg (by simp)]
    cases h1 : needR r (M.ch 123) with
    | error f => rfl
    | ok S =>
      rw [h1] at h
      show M.bnd (M.list (M.ch 125) M.itemProp S ([], [])) _ = _
      rw [list_eq h]; rfl
  · unfold objNext
    rw [if_pos rfl]
    obtain ⟨S, h1⟩ := isR_ok h
    rw [h1] at h ⊢
    rw [needR_yes h]
    show M.bnd (M.list (M.ch 125) M.itemProp S ([], [])) _ = _
    rw [list_none h]; rfl
theorem obj_item {S : M.St} {ps : List ByteArray} {os : List M.Opd} {s : ByteArray} {o : M.Opd} (hs : ∀ S' x, nameR (.ok S) = .ok (S', x) → s = x) (ho : ∀ S' x, operandR (needR (stR (nameR (.ok S))) (M.ch 58)) = .ok (S', x) → o = x) :
    objNext false (.ok S) ps os = bindR (stR (operandR (needR (stR (nameR (.ok S))) (M.ch 58)))) fun S3 => M.bnd (TL (M.ch 125) M.itemProp S3 (ps ++ [s], os ++ [o])) fun S2 l => objK l.1 l.2 S2 := by
  have e : nameR (.ok S) = M.name S := rfl
  rw [e] at hs ho ⊢
  unfold objNext
  rw [if_neg (by simp)]
  show M.bnd (M.bnd (M.itemProp S (ps, os)) (TL (M.ch 125) M.itemProp)) _ = _
  unfold M.itemProp
  cases hn : M.name S with
  | error e => rfl
  | ok p =>
    obtain ⟨S1, x⟩ := p
    obtain rfl := hs _ _ hn
    rw [hn] at ho
    simp only [M.bnd, stR, needR, bindR] at ho ⊢
    cases ht : M.take S1 (M.ch 58) with
    | error e => rfl
    | ok p =>
      obtain ⟨S2, u⟩ := p
      rw [ht] at ho
      have e2 : operandR (.ok S2) = M.operand S2 := rfl
      simp only [e2] at ho ⊢
      cases hp : M.operand S2 with
      | error e => rfl
      | ok p => obtain rfl := ho _ _ hp; rfl
theorem prop_it_short (S : M.St) (b : List ByteArray × List M.Opd) (S' : M.St) (b' : List ByteArray × List M.Opd) (h : M.itemProp S b = .ok (S', b')) : S'.rest.length < S.rest.length := M.itemProp_short h
theorem obj_go {r : RSt} {ps : List ByteArray} {os : List M.Opd} (h : isR r (M.ch 125) = false) :
    (bindR r fun S3 => M.bnd (TL (M.ch 125) M.itemProp S3 (ps, os)) fun S2 l => objK l.1 l.2 S2) = objNext false (needR r (M.ch 44)) ps os := by
  have := TL_step (last := M.ch 125) (item := M.itemProp) prop_it_short (b := (ps, os)) h
  unfold objNext
  rw [if_neg (by simp), ← bnd_bindR, this, bnd_bindR]
theorem obj_done {r : RSt} {ps : List ByteArray} {os : List M.Opd} (h : isR r (M.ch 125) = true) :
    (bindR r fun S3 => M.bnd (TL (M.ch 125) M.itemProp S3 (ps, os)) fun S2 l => objK l.1 l.2 S2) = objNext true r ps os := by
  obtain ⟨S, rfl⟩ := isR_ok h
  unfold objNext
  rw [if_pos rfl, needR_yes h]
  show M.bnd (TL (M.ch 125) M.itemProp S (ps, os)) _ = _
  rw [TL_last h (by decide)]; rfl
theorem obj_out {dn : Bool} {r : RSt} {ps : List ByteArray} {os : List M.Opd} (h : okR r = false ∨ dn = true) : objNext dn r ps os = bindR (needR r (M.ch 125)) (objK ps os) := by
  unfold objNext
  cases dn
  · rcases h with h | h
    · obtain ⟨f, rfl⟩ := okR_no h; rfl
    · cases h
  · rw [if_pos rfl]
theorem obj_end {q : RSt} {ps : List ByteArray} {os : List M.Opd} {o : M.Opd} (ho : ∀ S' x, operandR (needR q M.kProto) = .ok (S', x) → o = x) :
    stR (bindR q (objK ps os)) = stR (operandR (needR q M.kProto)) ∧ ∀ S' x, bindR q (objK ps os) = .ok (S', x) → (⟨4, M.em, M.em, os ++ [o], ps⟩ : M.Val) = x := by
  cases q with
  | error f => exact ⟨rfl, fun _ _ e => by cases e⟩
  | ok S =>
    simp only [needR, bindR, objK, stR] at ho ⊢
    cases ht : M.take S M.kProto with
    | error e => exact ⟨rfl, fun _ _ e => by cases e⟩
    | ok p =>
      obtain ⟨S2, u⟩ := p
      rw [ht] at ho
      simp only [M.bnd, operandR, bindR] at ho ⊢
      cases hp : M.operand S2 with
      | error e => exact ⟨rfl, fun _ _ e => by cases e⟩
      | ok p => obtain rfl := ho _ _ hp; exact ⟨rfl, fun _ _ e => by cases e; rfl⟩
theorem mz_op {q : RSt} {m : Nat} (h : mz q ≤ m) : ∀ S1, stR (operandR q) = .ok S1 → S1.rest.length + 1 < m := by
  intro S1 e
  cases q with
  | error f => cases e
  | ok S =>
    have e1 : operandR (.ok S) = M.operand S := rfl
    rw [e1] at e
    cases hn : M.operand S with
    | error e2 => rw [hn] at e; cases e
    | ok p => rw [hn] at e; cases e; have := M.operand_short hn; simp only [mz] at h; omega

theorem keep_self {X : Nat → Prop} {w : World} : Keep X w w := ⟨Nat.le_refl _, fun _ _ _ => rfl⟩
theorem keep_drew {X : Nat → Prop} {w W : World} (h : Keep X w W) : Keep X w W.drew := ⟨h.size, h.block⟩
theorem stm_set {W : World} {g : Nat} {T : TypeId} {v0 v1 v2 v3 v4 v5 v6 v7 : Value} (h : W.heap[g]? = some (.cells #[v0, v1, v2, v3, v4, v5, v6, v7] T (0, 0))) (u : Value) :
    (W.setCell ⟨g, 5, none⟩ u).heap[g]? = some (.cells #[v0, v1, v2, v3, v4, u, v6, v7] T (0, 0)) ∧ (W.setCell ⟨g, 4, none⟩ u).heap[g]? = some (.cells #[v0, v1, v2, v3, u, v5, v6, v7] T (0, 0)) :=
  ⟨heap_setCell_same _ _ _ _ _ _ h, heap_setCell_same _ _ _ _ _ _ h⟩

structure ObIn (a : Option Addr) (cap : Nat) (ts : List M.Tok) (fin : Int) (d n : Nat) (w wr : World) (k : Nat) (va vp : Value) (r : RSt) (i : Nat) (c y : Int) (ps : List ByteArray) (os : List M.Opd) : Prop where
  rs : RS ts fin d r i n c y
  box : wr.heap[w.heap.size]? = some (.cells #[.slice a ts.length cap, .int .i64 (i : Nat), .int .i64 fin, .int .i64 (n : Nat), .int .i64 c, .int .i64 y] 81 (0, 0))
  res : wr.heap[w.heap.size + 1]? = some (.cells #[.slice none 0 0, .int .i64 0, .int .i64 0, .int .i64 0, .int .i64 0, .int .i64 0] 81 (0, 0))
  res8 : wr.heap[w.heap.size + 1 + 1]? = some (.cells #[.int .i64 0, .string ⟨#[]⟩, .string ⟨#[]⟩, .string ⟨#[]⟩, .slice none 0 0, .slice none 0 0, .slice none 0 0, .slice none 0 0] 32 (0, 0))
  stm : wr.heap[w.heap.size + 1 + 1 + 1]? = some (.cells #[.int .i64 4, .string ⟨#[]⟩, .string ⟨#[]⟩, .string ⟨#[]⟩, va, vp, .slice none 0 0, .slice none 0 0] 32 (0, 0))
  ownA : wr.ownsRow (w.heap.size + 4) 47 3 va os.length (os.flatMap opCells)
  ownP : wr.ownsRow (w.heap.size + 4) 9 1 vp ps.length (ps.map .string)
  bel : Below w.heap.size w wr
  lt : mz r ≤ k
  eq : ps.length = os.length
  len : os.length ≤ ts.length + 1
  len' : okR r = true → os.length ≤ i

set_option maxRecDepth 8000 in
set_option maxHeartbeats 3200000 in
theorem robject_any (a : Option Addr) (cap : Nat) (ts : List M.Tok) (fin : Int) (d : Nat) (r : RSt) (i n : Nat) (c y : Int) (w : World) (h : RS ts fin d r i n c y) (hT : TokAt w (.slice a ts.length cap) ts) (hfew : ts.length ≤ 4398046511000) :
    Calls Tryz.prog 101 #[.agg #[.slice a ts.length cap, .int .i64 (i : Nat), .int .i64 fin, .int .i64 (n : Nat), .int .i64 c, .int .i64 y]] w fun e w' => Below w.heap.size w w' ∧ ∃ (i' : Nat) (c' y' : Int) (v : Value) (x : M.Val), e = .returned (.tuple #[.agg #[.slice a ts.length cap, .int .i64 (i' : Nat), .int .i64 fin, .int .i64 (n : Nat), .int .i64 c', .int .i64 y'], v]) ∧ RS ts fin d (stR (objectR r)) i' n c' y' ∧ valEnc w x v w' ∧ ∀ S' x', objectR r = .ok (S', x') → x = x' := by
  have hi := h.lt
  have hn2 := h.lim
  obtain ⟨i0, hi0, hz0, hz1, hz2⟩ := info_parts infoStr
  obtain ⟨j0, hj0, hy0, hy1, hy2⟩ := info_parts infoOpd
  have HR := hid (objectR_eq r)
  go_enter Tryz.func101, Tryz.ntmps101
  go_wp2_with fail
  refine (rneed_any _ _ _ _ _ _ _ _ _ _ _ h (hT.keep (below_four _ _ _ _)) (M.ch 123) (by decide) (by decide)).mono ?_
  rintro e w1 ⟨hb, i1, c1, y1, rfl, h1⟩
  obtain ⟨hP1, hQ1, hR1, hD1, hbw1⟩ := four_new hb
  clear hb
  obtain ⟨x0, x1, x2, x3, x4, x5, xf⟩ := cells6 hP1
  go_wp2_with fail
  have hP2 := set6 hP1 (.slice a ts.length cap) (.int .i64 (i1 : Nat)) (.int .i64 fin) (.int .i64 (n : Nat)) (.int .i64 c1) (.int .i64 y1)
  have hQ2 := kset6 hQ1 (show w.heap.size + 1 ≠ w.heap.size by omega) (.slice a ts.length cap) (.int .i64 (i1 : Nat)) (.int .i64 fin) (.int .i64 (n : Nat)) (.int .i64 c1) (.int .i64 y1)
  have hR2 := kset6 hR1 (show w.heap.size + 1 + 1 ≠ w.heap.size by omega) (.slice a ts.length cap) (.int .i64 (i1 : Nat)) (.int .i64 fin) (.int .i64 (n : Nat)) (.int .i64 c1) (.int .i64 y1)
  have hD2 := kset6 hD1 (show w.heap.size + 1 + 1 + 1 ≠ w.heap.size by omega) (.slice a ts.length cap) (.int .i64 (i1 : Nat)) (.int .i64 fin) (.int .i64 (n : Nat)) (.int .i64 c1) (.int .i64 y1)
  have hbw2 := bset6 hbw1 (Nat.le_refl w.heap.size) (.slice a ts.length cap) (.int .i64 (i1 : Nat)) (.int .i64 fin) (.int .i64 (n : Nat)) (.int .i64 c1) (.int .i64 y1)
  generalize hW : ((((((w1.setCell ⟨w.heap.size, 0, none⟩ (.slice a ts.length cap)).setCell ⟨w.heap.size, 1, none⟩ (.int .i64 (i1 : Nat))).setCell ⟨w.heap.size, 2, none⟩ (.int .i64 fin)).setCell ⟨w.heap.size, 3, none⟩ (.int .i64 (n : Nat))).setCell ⟨w.heap.size, 4, none⟩ (.int .i64 c1)).setCell ⟨w.heap.size, 5, none⟩ (.int .i64 y1)) = w2 at hP2 hQ2 hR2 hD2 hbw2 ⊢
  clear hW hP1 hQ1 hR1 hD1 hbw1
  clear x0 x1 x2 x3 x4 x5 xf
  refine (ris_any _ _ _ _ _ _ _ _ _ _ _ h1 (hT.keep hbw2) (M.ch 125) (by decide) (by decide)).mono ?_
  rintro e w3 ⟨rfl, hb⟩
  have hP3 := kept hb hP2
  have hQ3 := kept hb hQ2
  have hR3 := kept hb hR2
  have hD3 := kept hb hD2
  have hbw3 := hbw2.trans (hb.mono hbw2.size)
  clear hb hP2 hQ2 hR2 hD2 hbw2
  obtain ⟨x0, x1, x2, x3, x4, x5, xf⟩ := cells6 hP3
  go_wp2_with fail
  clear x0 x1 x2 x3 x4 x5 xf
  go_loopg [5] (mz (needR r (M.ch 123))) (fun k v wr => ∃ rr ii cc yy ps os va vp dn, ObIn a cap ts fin d n w wr k va vp rr ii cc yy ps os ∧ v = .bool dn ∧ Hid (objectR r = objNext dn rr ps os))
  case atStart => exact ⟨needR r (M.ch 123), i1, c1, y1, [], [], _, _, _, ⟨h1, hP3, hQ3, hR3, hD3, World.ownsRow_nil _ _ _ _, World.ownsRow_nil _ _ _ _, hbw3, Nat.le_refl _, rfl, Nat.zero_le _, fun _ => Nat.zero_le _⟩, rfl, HR⟩
  case round =>
    obtain ⟨rr, ii, cc, yy, ps, os, va, vp, dn, ⟨rs, hP4, hQ4, hR4, hD4, ownA4, ownP4, hbw4, hlt, heq, hlen, hlen'⟩, rfl, HT⟩ := hrel
    obtain ⟨ap, cp, rfl⟩ := own_form ownP4
    obtain ⟨aa, ca, rfl⟩ := own_form ownA4
    clear hP3 hQ3 hR3 hD3 hbw3 HR
    have hil := rs.lt
    have HEQ := hid heq
    have hlep : ps.length ≤ ts.length + 1 := by omega
    have hlep' : okR rr = true → ps.length ≤ ii := fun h => by have := hlen' h; omega
    clear heq
    obtain ⟨x0, x1, x2, x3, x4, x5, xf⟩ := cells6 hP4
    go_wp2_with fail
    clear x0 x1 x2 x3 x4 x5 xf
    refine (rok_any _ _ _ _ _ _ _ _ _ _ _ _ rs).mono ?_
    rintro e w5 ⟨rfl, hb⟩
    have hP5 := kept hb hP4
    have hQ5 := kept hb hQ4
    have hR5 := kept hb hR4
    have hD5 := kept hb hD4
    have ownA5 := ownsRow_below ownA4 hb
    have ownP5 := ownsRow_below ownP4 hb
    have hbw5 := hbw4.trans (hb.mono hbw4.size)
    clear hb hP4 hQ4 hR4 hD4 ownA4 ownP4 hbw4
    by_cases hgo : okR rr = true ∧ dn = false
    · obtain ⟨hok, rfl⟩ := hgo
      obtain ⟨S, rfl⟩ := okR_yes hok
      have hl1 := hlen' hok
      have hl1p := hlep' hok
      rw [hok]
      cases gk with
      | zero => simp [mz] at hlt
      | succ k =>
        obtain ⟨x0, x1, x2, x3, x4, x5, xf⟩ := cells6 hP5
        go_wp2_with fail
        clear x0 x1 x2 x3 x4 x5 xf
        refine (rname_any _ _ _ _ _ _ _ _ _ _ _ rs (hT.keep hbw5)).mono ?_
        rintro e w6 ⟨hb, i6, c6, y6, s, rfl, h6, hs⟩
        have hP6 := kept hb hP5
        have hQ6 := kept hb hQ5
        have hR6 := kept hb hR5
        have hD6 := kept hb hD5
        have ownA6 := ownsRow_below ownA5 hb
        have ownP6 := ownsRow_below ownP5 hb
        have hbw6 := hbw5.trans (hb.mono hbw5.size)
        clear hb hP5 hQ5 hR5 hD5 ownA5 ownP5 hbw5
        go_wp2_with fail
        refine (rneed_any _ _ _ _ _ _ _ _ _ _ _ h6 (hT.keep (hbw6.trans ((below_box _).mono hbw6.size))) (M.ch 58) (by decide) (by decide)).mono ?_
        rintro e w7 ⟨hb', i7, c7, y7, rfl, h7⟩
        obtain ⟨_, _, hb⟩ := one_new hb'
        clear hb'
        have hP7 := kept hb hP6
        have hQ7 := kept hb hQ6
        have hR7 := kept hb hR6
        have hD7 := kept hb hD6
        have ownA7 := ownsRow_below ownA6 hb
        have ownP7 := ownsRow_below ownP6 hb
        have hbw7 := hbw6.trans (hb.mono hbw6.size)
        clear hb hP6 hQ6 hR6 hD6 ownA6 ownP6 hbw6
        go_wp2_with fail
        refine (roperand_any _ _ _ _ _ _ _ _ _ _ _ h7 (hT.keep hbw7)).mono ?_
        rintro e w8 ⟨hb, i8, c8, y8, o, rfl, h8, ho⟩
        have hP8 := kept hb hP7
        have hQ8 := kept hb hQ7
        have hR8 := kept hb hR7
        have hD8 := kept hb hD7
        have ownA8 := ownsRow_below ownA7 hb
        have ownP8 := ownsRow_below ownP7 hb
        have hbw8 := hbw7.trans (hb.mono hbw7.size)
        clear hb hP7 hQ7 hR7 hD7 ownA7 ownP7 hbw7
        have HT2 : Hid (objectR r = bindR (stR (operandR (needR (stR (nameR (.ok S))) (M.ch 58)))) fun S3 => M.bnd (TL (M.ch 125) M.itemProp S3 (ps ++ [s], os ++ [o])) fun S2 l => objK l.1 l.2 S2) := by
          unfold Hid; rw [HT.out]; exact obj_item hs ho
        have hkk : S.rest.length ≤ k := by simp only [mz] at hlt; omega
        have hmz7 := mz_need (t := M.ch 58) (by decide) (fun S1 (e : stR (nameR (.ok S)) = .ok S1) => Nat.lt_of_lt_of_le (names_short e) hkk)
        have hmz8 := mz_op hmz7.1
        have hi8 := h8.lt
        have hg8 := hlt_ hD8
        have hz8 := hbw8.size
        have hm63 : ps.length + 1 ≤ maxLen := by unfold maxLen; omega
        have hmby : (ps.length + 1) * 16 ≤ 140737488355328 := by omega
        have hn63 : os.length + 1 ≤ maxLen := by unfold maxLen; omega
        have hnby : (os.length + 1) * 32 ≤ 140737488355328 := by omega
        have hobP := fun k' hk' => (ownP8.lt k' hk')
        have hobA := fun k' hk' => (ownA8.lt k' hk')
        have hWz : (((w8.alloc (.cells #[.slice a ts.length cap, .int .i64 (i8 : Nat), .int .i64 fin, .int .i64 (n : Nat), .int .i64 c8, .int .i64 y8] 81)).alloc (.cells #[.int .i64 o.k, .int .i64 o.n, .string o.s] 47)).alloc (.cells #[.string s] 9)).heap.size = w8.heap.size + 3 := by simp only [World.size_alloc]
        have hbW : Below w8.heap.size w8 (((w8.alloc (.cells #[.slice a ts.length cap, .int .i64 (i8 : Nat), .int .i64 fin, .int .i64 (n : Nat), .int .i64 c8, .int .i64 y8] 81)).alloc (.cells #[.int .i64 o.k, .int .i64 o.n, .string o.s] 47)).alloc (.cells #[.string s] 9)) := below_three _ _ _
        have hX8 : (((w8.alloc (.cells #[.slice a ts.length cap, .int .i64 (i8 : Nat), .int .i64 fin, .int .i64 (n : Nat), .int .i64 c8, .int .i64 y8] 81)).alloc (.cells #[.int .i64 o.k, .int .i64 o.n, .string o.s] 47)).alloc (.cells #[.string s] 9)).heap[w8.heap.size]? = some (.cells #[.slice a ts.length cap, .int .i64 (i8 : Nat), .int .i64 fin, .int .i64 (n : Nat), .int .i64 c8, .int .i64 y8] 81) := (Below.heap_alloc _ _ _ (by simp; omega)).trans ((Below.heap_alloc _ _ _ (by simp)).trans (heap_alloc_new w8 _))
        have hO8 : (((w8.alloc (.cells #[.slice a ts.length cap, .int .i64 (i8 : Nat), .int .i64 fin, .int .i64 (n : Nat), .int .i64 c8, .int .i64 y8] 81)).alloc (.cells #[.int .i64 o.k, .int .i64 o.n, .string o.s] 47)).alloc (.cells #[.string s] 9)).heap[w8.heap.size + 1]? = some (.cells #[.int .i64 o.k, .int .i64 o.n, .string o.s] 47) := (Below.heap_alloc _ _ _ (by simp)).trans (by have := heap_alloc_new (w8.alloc (.cells #[.slice a ts.length cap, .int .i64 (i8 : Nat), .int .i64 fin, .int .i64 (n : Nat), .int .i64 c8, .int .i64 y8] 81)) (.cells #[.int .i64 o.k, .int .i64 o.n, .string o.s] 47); simp only [World.size_alloc] at this; exact this)
        have hTM : (((w8.alloc (.cells #[.slice a ts.length cap, .int .i64 (i8 : Nat), .int .i64 fin, .int .i64 (n : Nat), .int .i64 c8, .int .i64 y8] 81)).alloc (.cells #[.int .i64 o.k, .int .i64 o.n, .string o.s] 47)).alloc (.cells #[.string s] 9)).heap[w8.heap.size + 2]? = some (.cells #[.string s] 9) := by
          have := heap_alloc_new ((w8.alloc (.cells #[.slice a ts.length cap, .int .i64 (i8 : Nat), .int .i64 fin, .int .i64 (n : Nat), .int .i64 c8, .int .i64 y8] 81)).alloc (.cells #[.int .i64 o.k, .int .i64 o.n, .string o.s] 47)) (.cells #[.string s] 9); simp only [World.size_alloc] at this; exact this
        obtain ⟨d0, d1, d2, d3, d4, d5, d6, d7, df, dz⟩ := cells8 hD8
        have e0 : w.heap.size < w8.heap.size := by omega
        have e1 : w.heap.size + 1 < w8.heap.size := by omega
        have e2 : w.heap.size + 1 + 1 < w8.heap.size := by omega
        go_wp2_with (at_builtin; refine wpList_append_lies _ rfl _ _ 29 rfl (w.heap.size + 4) 9 i0 _ 1 16 Tryz.underlying29 hi0 hz0 hz1 hz2 rfl (by decide) _ _ _ rfl (ownsRow_below ownP8 hbW) ⟨w8.heap.size + 2, 0, none⟩ 1 1 [.string s] rfl rfl (World.news_of_block (cs := #[.string s]) (t := 9) (fr := (0, 0)) hTM) (by simp [Value.oneCell']) Nat.one_pos hm63 hmby (by rw [hWz]; omega) (w8.heap.size + 3) hWz ?_)
        intro gp capp w9 hown9 hgrow hat9 hlt9
        have hP9 := kgrow hgrow (kept hbW hP8) (fun k' hk' => by have := hobP k' hk'; omega)
        have hQ9 := kgrow hgrow (kept hbW hQ8) (fun k' hk' => by have := hobP k' hk'; omega)
        have hR9 := kgrow hgrow (kept hbW hR8) (fun k' hk' => by have := hobP k' hk'; omega)
        have hD9 := kgrow hgrow (kept hbW hD8) (fun k' hk' => by have := hobP k' hk'; omega)
        have hX9 := kgrow hgrow hX8 (fun k' hk' => by have := hobP k' hk'; omega)
        have hO9 := kgrow hgrow hO8 (fun k' hk' => by have := hobP k' hk'; omega)
        have ownA9 : w9.ownsRow (w.heap.size + 4) 47 3 (.slice aa os.length ca) os.length (os.flatMap opCells) := own_far (ownsRow_below ownA8 hbW) fun k' hk' hl' => hgrow.block k' hl' fun e => own_ne ownA8 ownP8 (by decide) k' hk' e.symm
        have hz9 : w8.heap.size + 3 ≤ w9.heap.size := by have := hgrow.size; omega
        have hbw9 : Below w.heap.size w w9 := bgrow (hbw8.trans (hbW.mono hz8)) hgrow (fun k' hk' => by have := hobP k' hk'; omega) (by rw [hWz]; omega)
        have ownP9 : w9.ownsRow (w.heap.size + 4) 9 1 (.slice (some ⟨gp, 0, none⟩) (ps.length + 1) capp) (ps ++ [s]).length ((ps ++ [s]).map .string) := by
          rw [List.map_append, List.length_append]; exact hown9
        clear d0 d1 d2 d3 d4 d5 d6 d7 df dz hX8 hO8 hTM hbW hWz hobP hgrow hown9 hat9 hlt9 hP8 hQ8 hR8 hD8 ownA8 ownP8 hbw8
        have hP10 := kset hP9 (p := ⟨w.heap.size + 1 + 1 + 1, 5, none⟩) (show w.heap.size ≠ w.heap.size + 1 + 1 + 1 by omega) (.slice (some ⟨gp, 0, none⟩) (ps.length + 1) capp)
        have hQ10 := kset hQ9 (p := ⟨w.heap.size + 1 + 1 + 1, 5, none⟩) (show w.heap.size + 1 ≠ w.heap.size + 1 + 1 + 1 by omega) (.slice (some ⟨gp, 0, none⟩) (ps.length + 1) capp)
        have hR10 := kset hR9 (p := ⟨w.heap.size + 1 + 1 + 1, 5, none⟩) (show w.heap.size + 1 + 1 ≠ w.heap.size + 1 + 1 + 1 by omega) (.slice (some ⟨gp, 0, none⟩) (ps.length + 1) capp)
        have hX10 := kset hX9 (p := ⟨w.heap.size + 1 + 1 + 1, 5, none⟩) (show w8.heap.size ≠ w.heap.size + 1 + 1 + 1 by omega) (.slice (some ⟨gp, 0, none⟩) (ps.length + 1) capp)
        have hO10 := kset hO9 (p := ⟨w.heap.size + 1 + 1 + 1, 5, none⟩) (show w8.heap.size + 1 ≠ w.heap.size + 1 + 1 + 1 by omega) (.slice (some ⟨gp, 0, none⟩) (ps.length + 1) capp)
        have hD10 := (stm_set hD9 (.slice (some ⟨gp, 0, none⟩) (ps.length + 1) capp)).1
        have ownA10 := ownsRow_setCell_below ownA9 (a := ⟨w.heap.size + 1 + 1 + 1, 5, none⟩) (show w.heap.size + 1 + 1 + 1 < (w.heap.size + 4) by omega) (.slice (some ⟨gp, 0, none⟩) (ps.length + 1) capp)
        have ownP10 := ownsRow_setCell_below ownP9 (a := ⟨w.heap.size + 1 + 1 + 1, 5, none⟩) (show w.heap.size + 1 + 1 + 1 < (w.heap.size + 4) by omega) (.slice (some ⟨gp, 0, none⟩) (ps.length + 1) capp)
        have hbw10 := hbw9.setCell (p := ⟨w.heap.size + 1 + 1 + 1, 5, none⟩) (show w.heap.size ≤ w.heap.size + 1 + 1 + 1 by omega) (.slice (some ⟨gp, 0, none⟩) (ps.length + 1) capp)
        have hz10 : (w9.setCell ⟨w.heap.size + 1 + 1 + 1, 5, none⟩ (.slice (some ⟨gp, 0, none⟩) (ps.length + 1) capp)).heap.size = w9.heap.size := by simp
        obtain ⟨d0, d1, d2, d3, d4, d5, d6, d7, df, dz⟩ := cells8 hD9
        obtain ⟨o0, o1, o2, of⟩ := tcells3 hO9
        clear e0 e1 e2
        have e0 : w.heap.size < w9.heap.size := by omega
        have e1 : w.heap.size + 1 < w9.heap.size := by omega
        have e2 : w.heap.size + 1 + 1 < w9.heap.size := by omega
        have e4 : w8.heap.size + 1 < w9.heap.size := by omega
        have e5 : w8.heap.size < w9.heap.size := by omega
        have hWz : ((w9.setCell ⟨w.heap.size + 1 + 1 + 1, 5, none⟩ (.slice (some ⟨gp, 0, none⟩) (ps.length + 1) capp)).alloc (.cells #[.int .i64 o.k, .int .i64 o.n, .string o.s] 47)).heap.size = w9.heap.size + 1 := by simp
        have hbW : Below (w9.setCell ⟨w.heap.size + 1 + 1 + 1, 5, none⟩ (.slice (some ⟨gp, 0, none⟩) (ps.length + 1) capp)).heap.size (w9.setCell ⟨w.heap.size + 1 + 1 + 1, 5, none⟩ (.slice (some ⟨gp, 0, none⟩) (ps.length + 1) capp)) ((w9.setCell ⟨w.heap.size + 1 + 1 + 1, 5, none⟩ (.slice (some ⟨gp, 0, none⟩) (ps.length + 1) capp)).alloc (.cells #[.int .i64 o.k, .int .i64 o.n, .string o.s] 47)) := below_box _
        have hTM : ((w9.setCell ⟨w.heap.size + 1 + 1 + 1, 5, none⟩ (.slice (some ⟨gp, 0, none⟩) (ps.length + 1) capp)).alloc (.cells #[.int .i64 o.k, .int .i64 o.n, .string o.s] 47)).heap[w9.heap.size]? = some (.cells #[.int .i64 o.k, .int .i64 o.n, .string o.s] 47) := by
          have := heap_alloc_new (w9.setCell ⟨w.heap.size + 1 + 1 + 1, 5, none⟩ (.slice (some ⟨gp, 0, none⟩) (ps.length + 1) capp)) (.cells #[.int .i64 o.k, .int .i64 o.n, .string o.s] 47); rw [hz10] at this; exact this
        go_wp2_with (at_builtin; refine wpList_append_lies _ rfl _ _ 28 rfl (w.heap.size + 4) 47 j0 _ 3 32 Tryz.underlying28 hj0 hy0 hy1 hy2 rfl (by decide) _ _ _ rfl (ownsRow_below ownA10 hbW) ⟨w9.heap.size, 0, none⟩ 1 1 [.int .i64 o.k, .int .i64 o.n, .string o.s] rfl rfl (World.news_of_block (cs := #[.int .i64 o.k, .int .i64 o.n, .string o.s]) (t := 47) (fr := (0, 0)) hTM) (by simp [Value.oneCell']) Nat.one_pos hn63 hnby (by rw [hWz]; omega) (w9.heap.size + 1) hWz ?_)
        intro ga capa w11 hown11 hgrow hat11 hlt11
        have hP11 := kgrow hgrow (kept hbW hP10) (fun k' hk' => by have := hobA k' hk'; omega)
        have hQ11 := kgrow hgrow (kept hbW hQ10) (fun k' hk' => by have := hobA k' hk'; omega)
        have hR11 := kgrow hgrow (kept hbW hR10) (fun k' hk' => by have := hobA k' hk'; omega)
        have hD11 := kgrow hgrow (kept hbW hD10) (fun k' hk' => by have := hobA k' hk'; omega)
        have hX11 := kgrow hgrow (kept hbW hX10) (fun k' hk' => by have := hobA k' hk'; omega)
        have ownP11 : w11.ownsRow (w.heap.size + 4) 9 1 (.slice (some ⟨gp, 0, none⟩) (ps.length + 1) capp) (ps ++ [s]).length ((ps ++ [s]).map .string) := own_far (ownsRow_below ownP10 hbW) fun k' hk' hl' => hgrow.block k' hl' fun e => own_ne ownP10 ownA10 (by decide) k' hk' e.symm
        have hbw11 : Below w.heap.size w w11 := bgrow (hbw10.trans (hbW.mono hbw10.size)) hgrow (fun k' hk' => by have := hobA k' hk'; omega) (by rw [hWz]; omega)
        have ownA11 : w11.ownsRow (w.heap.size + 4) 47 3 (.slice (some ⟨ga, 0, none⟩) (os.length + 1) capa) (os ++ [o]).length ((os ++ [o]).flatMap opCells) := by
          rw [List.flatMap_append, List.length_append]; exact hown11
        have hz11 : w9.heap.size + 1 ≤ w11.heap.size := by have := hgrow.size; omega
        clear d0 d1 d2 d3 d4 d5 d6 d7 df dz o0 o1 o2 of e0 e1 e2 e4 e5 hTM hbW hWz hobA hgrow hown11 hat11 hlt11 hP9 hQ9 hR9 hX9 hO9 hD9 ownA9 ownP9 hbw9 hP10 hQ10 hR10 hX10 hO10 hD10 ownA10 ownP10 hbw10 hz10
        obtain ⟨d0, d1, d2, d3, d4, d5, d6, d7, df, dz⟩ := cells8 hD11
        obtain ⟨x0, x1, x2, x3, x4, x5, xf⟩ := cells6 hX11
        obtain ⟨q0, q1, q2, q3, q4, q5, qf⟩ := cells6 hP11
        go_wp2_with fail
        have hP12 := set6 (kset hP11 (p := ⟨w.heap.size + 1 + 1 + 1, 4, none⟩) (show w.heap.size ≠ w.heap.size + 1 + 1 + 1 by omega) (.slice (some ⟨ga, 0, none⟩) (os.length + 1) capa)) (.slice a ts.length cap) (.int .i64 (i8 : Nat)) (.int .i64 fin) (.int .i64 (n : Nat)) (.int .i64 c8) (.int .i64 y8)
        have hQ12 := kset6 (kset hQ11 (p := ⟨w.heap.size + 1 + 1 + 1, 4, none⟩) (show w.heap.size + 1 ≠ w.heap.size + 1 + 1 + 1 by omega) (.slice (some ⟨ga, 0, none⟩) (os.length + 1) capa)) (show w.heap.size + 1 ≠ w.heap.size by omega) (.slice a ts.length cap) (.int .i64 (i8 : Nat)) (.int .i64 fin) (.int .i64 (n : Nat)) (.int .i64 c8) (.int .i64 y8)
        have hR12 := kset6 (kset hR11 (p := ⟨w.heap.size + 1 + 1 + 1, 4, none⟩) (show w.heap.size + 1 + 1 ≠ w.heap.size + 1 + 1 + 1 by omega) (.slice (some ⟨ga, 0, none⟩) (os.length + 1) capa)) (show w.heap.size + 1 + 1 ≠ w.heap.size by omega) (.slice a ts.length cap) (.int .i64 (i8 : Nat)) (.int .i64 fin) (.int .i64 (n : Nat)) (.int .i64 c8) (.int .i64 y8)
        have hD12 := kset6 (stm_set hD11 (.slice (some ⟨ga, 0, none⟩) (os.length + 1) capa)).2 (show w.heap.size + 1 + 1 + 1 ≠ w.heap.size by omega) (.slice a ts.length cap) (.int .i64 (i8 : Nat)) (.int .i64 fin) (.int .i64 (n : Nat)) (.int .i64 c8) (.int .i64 y8)
        have ownA12 := oset6 (ownsRow_setCell_below ownA11 (a := ⟨w.heap.size + 1 + 1 + 1, 4, none⟩) (show w.heap.size + 1 + 1 + 1 < (w.heap.size + 4) by omega) (.slice (some ⟨ga, 0, none⟩) (os.length + 1) capa)) (show w.heap.size < (w.heap.size + 4) by omega) (.slice a ts.length cap) (.int .i64 (i8 : Nat)) (.int .i64 fin) (.int .i64 (n : Nat)) (.int .i64 c8) (.int .i64 y8)
        have ownP12 := oset6 (ownsRow_setCell_below ownP11 (a := ⟨w.heap.size + 1 + 1 + 1, 4, none⟩) (show w.heap.size + 1 + 1 + 1 < (w.heap.size + 4) by omega) (.slice (some ⟨ga, 0, none⟩) (os.length + 1) capa)) (show w.heap.size < (w.heap.size + 4) by omega) (.slice a ts.length cap) (.int .i64 (i8 : Nat)) (.int .i64 fin) (.int .i64 (n : Nat)) (.int .i64 c8) (.int .i64 y8)
        have hbw12 := bset6 (hbw11.setCell (p := ⟨w.heap.size + 1 + 1 + 1, 4, none⟩) (show w.heap.size ≤ w.heap.size + 1 + 1 + 1 by omega) (.slice (some ⟨ga, 0, none⟩) (os.length + 1) capa)) (Nat.le_refl w.heap.size) (.slice a ts.length cap) (.int .i64 (i8 : Nat)) (.int .i64 fin) (.int .i64 (n : Nat)) (.int .i64 c8) (.int .i64 y8)
        generalize hW : (((((((w11.setCell ⟨w.heap.size + 1 + 1 + 1, 4, none⟩ (.slice (some ⟨ga, 0, none⟩) (os.length + 1) capa)).setCell ⟨w.heap.size, 0, none⟩ (.slice a ts.length cap)).setCell ⟨w.heap.size, 1, none⟩ (.int .i64 (i8 : Nat))).setCell ⟨w.heap.size, 2, none⟩ (.int .i64 fin)).setCell ⟨w.heap.size, 3, none⟩ (.int .i64 (n : Nat))).setCell ⟨w.heap.size, 4, none⟩ (.int .i64 c8)).setCell ⟨w.heap.size, 5, none⟩ (.int .i64 y8)) = w12 at hP12 hQ12 hR12 hD12 ownA12 ownP12 hbw12 ⊢
        clear hW d0 d1 d2 d3 d4 d5 d6 d7 df dz x0 x1 x2 x3 x4 x5 xf q0 q1 q2 q3 q4 q5 qf hP11 hQ11 hR11 hD11 hX11 ownA11 ownP11 hbw11
        refine (ris_any _ _ _ _ _ _ _ _ _ _ _ h8 (hT.keep hbw12) (M.ch 125) (by decide) (by decide)).mono ?_
        rintro e w13 ⟨rfl, hb⟩
        have hP13 := kept hb hP12
        have hQ13 := kept hb hQ12
        have hR13 := kept hb hR12
        have hD13 := kept hb hD12
        have ownA13 := ownsRow_below ownA12 hb
        have ownP13 := ownsRow_below ownP12 hb
        have hbw13 := hbw12.trans (hb.mono hbw12.size)
        clear hb hP12 hQ12 hR12 hD12 ownA12 ownP12 hbw12
        obtain ⟨x0, x1, x2, x3, x4, x5, xf⟩ := cells6 hP13
        cases hk2 : isR (stR (operandR (needR (stR (nameR (.ok S))) (M.ch 58)))) (M.ch 125)
        · have HT3 : Hid (objectR r = objNext false (needR (stR (operandR (needR (stR (nameR (.ok S))) (M.ch 58)))) (M.ch 44)) (ps ++ [s]) (os ++ [o])) := by
            unfold Hid; rw [HT2.out]; exact obj_go hk2
          go_wp2_with fail
          clear x0 x1 x2 x3 x4 x5 xf
          refine (rneed_any _ _ _ _ _ _ _ _ _ _ _ h8 (hT.keep hbw13) (M.ch 44) (by decide) (by decide)).mono ?_
          rintro e w14 ⟨hb, i14, c14, y14, rfl, h14⟩
          have hP14 := kept hb hP13
          have hQ14 := kept hb hQ13
          have hR14 := kept hb hR13
          have hD14 := kept hb hD13
          have ownA14 := ownsRow_below ownA13 hb
          have ownP14 := ownsRow_below ownP13 hb
          have hbw14 := hbw13.trans (hb.mono hbw13.size)
          clear hb hP13 hQ13 hR13 hD13 ownA13 ownP13 hbw13
          obtain ⟨x0, x1, x2, x3, x4, x5, xf⟩ := cells6 hP14
          go_wp2_with fail
          have hmz := mz_need (t := M.ch 44) (by decide) (fun S1 e => Nat.lt_of_succ_lt (hmz8 S1 e))
          go_roundg k
          case measure => omega
          case rel =>
            refine ⟨needR (stR (operandR (needR (stR (nameR (.ok S))) (M.ch 58)))) (M.ch 44), i14, c14, y14, ps ++ [s], os ++ [o], _, _, false, ⟨h14, set6 hP14 _ _ _ _ _ _, kset6 hQ14 (by omega) _ _ _ _ _ _, kset6 hR14 (by omega) _ _ _ _ _ _, kset6 hD14 (by omega) _ _ _ _ _ _, oset6 ownA14 (by omega) _ _ _ _ _ _, oset6 ownP14 (by omega) _ _ _ _ _ _, bset6 hbw14 (Nat.le_refl _) _ _ _ _ _ _, by omega, by simp [HEQ.out], by simp; omega, fun hko => ?_⟩, rfl, HT3⟩
            obtain ⟨S8, e8⟩ := okR_yes hko
            obtain ⟨S1, e1, l8⟩ := hmz.2 S8 e8
            have l1 := mz_op (q := needR (stR (nameR (.ok S))) (M.ch 58)) (m := S.rest.length) (mz_need (t := M.ch 58) (by decide) (fun S1 (e : stR (nameR (.ok S)) = .ok S1) => names_short e)).1 S1 e1
            rw [e8] at h14
            rw [e1] at h8
            have j8 := h14.idx.1
            have j4 := h8.idx.1
            have j0 := rs.idx.1
            simp only [List.length_append, List.length_cons, List.length_nil]
            omega
        · have HT3 : Hid (objectR r = objNext true (stR (operandR (needR (stR (nameR (.ok S))) (M.ch 58)))) (ps ++ [s]) (os ++ [o])) := by
            unfold Hid; rw [HT2.out]; exact obj_done hk2
          obtain ⟨S1, e1⟩ := isR_ok hk2
          go_wp2_with fail
          clear x0 x1 x2 x3 x4 x5 xf
          go_roundg k
          case measure => omega
          case rel =>
            have l1 := hmz8 S1 e1
            have l2 := mz_op (q := needR (stR (nameR (.ok S))) (M.ch 58)) (m := S.rest.length) (mz_need (t := M.ch 58) (by decide) (fun S1 (e : stR (nameR (.ok S)) = .ok S1) => names_short e)).1 S1 e1
            refine ⟨stR (operandR (needR (stR (nameR (.ok S))) (M.ch 58))), i8, c8, y8, ps ++ [s], os ++ [o], _, _, true, ⟨h8, hP13, hQ13, hR13, hD13, ownA13, ownP13, hbw13, ?_, by simp [HEQ.out], by simp; omega, fun hko => ?_⟩, rfl, HT3⟩
            · rw [e1]; simp only [mz]; omega
            · rw [e1] at h8
              have j4 := h8.idx.1
              have j0 := rs.idx.1
              simp only [List.length_append, List.length_cons, List.length_nil]
              omega
    · have HX : Hid (objectR r = bindR (needR rr (M.ch 125)) (objK ps os)) := by
        unfold Hid; rw [HT.out]; refine obj_out ?_
        cases h1 : okR rr
        · exact .inl rfl
        · cases h2 : dn
          · exact absurd ⟨h1, h2⟩ hgo
          · exact .inr rfl
      have hx : okR rr = false ∨ (okR rr = true ∧ dn = true) := by
        cases h1 : okR rr
        · exact .inl rfl
        · cases h2 : dn
          · exact absurd ⟨h1, h2⟩ hgo
          · exact .inr ⟨rfl, rfl⟩
      clear hgo HT
      have hos : os.length ≤ ts.length + 1 := hlen
      have hn63 : os.length + 1 ≤ maxLen := by unfold maxLen; omega
      have hnby : (os.length + 1) * 32 ≤ 140737488355328 := by omega
      obtain ⟨x0, x1, x2, x3, x4, x5, xf⟩ := cells6 hP5
      rcases hx with hok | ⟨hok, rfl⟩
      all_goals
        rw [hok]
        go_wp2_with fail
        clear x0 x1 x2 x3 x4 x5 xf
        refine (rneed_any _ _ _ _ _ _ _ _ _ _ _ rs (hT.keep hbw5) (M.ch 125) (by decide) (by decide)).mono ?_
        rintro e w6 ⟨hb, i6, c6, y6, rfl, h6⟩
        have hP6 := kept hb hP5
        have hQ6 := kept hb hQ5
        have hR6 := kept hb hR5
        have hD6 := kept hb hD5
        have ownA6 := ownsRow_below ownA5 hb
        have ownP6 := ownsRow_below ownP5 hb
        have hbw6 := hbw5.trans (hb.mono hbw5.size)
        clear hb hP5 hQ5 hR5 hD5 ownA5 ownP5 hbw5
        go_wp2_with fail
        refine (rneed_any _ _ _ _ _ _ _ _ _ _ _ h6 (hT.keep hbw6) M.kProto (by decide) (by decide)).mono ?_
        rintro e w7 ⟨hb, i7, c7, y7, rfl, h7⟩
        have hP7 := kept hb hP6
        have hQ7 := kept hb hQ6
        have hR7 := kept hb hR6
        have hD7 := kept hb hD6
        have ownA7 := ownsRow_below ownA6 hb
        have ownP7 := ownsRow_below ownP6 hb
        have hbw7 := hbw6.trans (hb.mono hbw6.size)
        clear hb hP6 hQ6 hR6 hD6 ownA6 ownP6 hbw6
        obtain ⟨x0, x1, x2, x3, x4, x5, xf⟩ := cells6 hP7
        go_wp2_with fail
        have hP8 := set6 hP7 (.slice a ts.length cap) (.int .i64 (i7 : Nat)) (.int .i64 fin) (.int .i64 (n : Nat)) (.int .i64 c7) (.int .i64 y7)
        have hQ8 := kset6 hQ7 (show w.heap.size + 1 ≠ w.heap.size by omega) (.slice a ts.length cap) (.int .i64 (i7 : Nat)) (.int .i64 fin) (.int .i64 (n : Nat)) (.int .i64 c7) (.int .i64 y7)
        have hR8 := kset6 hR7 (show w.heap.size + 1 + 1 ≠ w.heap.size by omega) (.slice a ts.length cap) (.int .i64 (i7 : Nat)) (.int .i64 fin) (.int .i64 (n : Nat)) (.int .i64 c7) (.int .i64 y7)
        have hD8 := kset6 hD7 (show w.heap.size + 1 + 1 + 1 ≠ w.heap.size by omega) (.slice a ts.length cap) (.int .i64 (i7 : Nat)) (.int .i64 fin) (.int .i64 (n : Nat)) (.int .i64 c7) (.int .i64 y7)
        have hbw8 := bset6 hbw7 (Nat.le_refl w.heap.size) (.slice a ts.length cap) (.int .i64 (i7 : Nat)) (.int .i64 fin) (.int .i64 (n : Nat)) (.int .i64 c7) (.int .i64 y7)
        have ownA8 := oset6 ownA7 (show w.heap.size < w.heap.size + 4 by omega) (.slice a ts.length cap) (.int .i64 (i7 : Nat)) (.int .i64 fin) (.int .i64 (n : Nat)) (.int .i64 c7) (.int .i64 y7)
        have ownP8 := oset6 ownP7 (show w.heap.size < w.heap.size + 4 by omega) (.slice a ts.length cap) (.int .i64 (i7 : Nat)) (.int .i64 fin) (.int .i64 (n : Nat)) (.int .i64 c7) (.int .i64 y7)
        generalize hW : ((((((w7.setCell ⟨w.heap.size, 0, none⟩ (.slice a ts.length cap)).setCell ⟨w.heap.size, 1, none⟩ (.int .i64 (i7 : Nat))).setCell ⟨w.heap.size, 2, none⟩ (.int .i64 fin)).setCell ⟨w.heap.size, 3, none⟩ (.int .i64 (n : Nat))).setCell ⟨w.heap.size, 4, none⟩ (.int .i64 c7)).setCell ⟨w.heap.size, 5, none⟩ (.int .i64 y7)) = w8 at hP8 hQ8 hR8 hD8 hbw8 ownA8 ownP8 ⊢
        clear hW hP7 hQ7 hR7 hD7 hbw7 ownA7 ownP7
        clear x0 x1 x2 x3 x4 x5 xf
        refine (roperand_any _ _ _ _ _ _ _ _ _ _ _ h7 (hT.keep hbw8)).mono ?_
        rintro e w9 ⟨hb, i9, c9, y9, o, rfl, h9, ho⟩
        have hP9 := kept hb hP8
        have hQ9 := kept hb hQ8
        have hR9 := kept hb hR8
        have hD9 := kept hb hD8
        have ownA9 := ownsRow_below ownA8 hb
        have ownP9 := ownsRow_below ownP8 hb
        have hbw9 := hbw8.trans (hb.mono hbw8.size)
        clear hb hP8 hQ8 hR8 hD8 ownA8 ownP8 hbw8
        have HE := hid (obj_end (ps := ps) (os := os) ho)
        have hg9 := hlt_ hD9
        have hz9 := hbw9.size
        have hobA := fun k' hk' => (ownA9.lt k' hk')
        have hWz : (((w9.alloc (.cells #[.slice a ts.length cap, .int .i64 (i9 : Nat), .int .i64 fin, .int .i64 (n : Nat), .int .i64 c9, .int .i64 y9] 81)).alloc (.cells #[.int .i64 o.k, .int .i64 o.n, .string o.s] 47)).alloc (.cells #[.int .i64 o.k, .int .i64 o.n, .string o.s] 47)).heap.size = w9.heap.size + 3 := by simp only [World.size_alloc]
        have hbW : Below w9.heap.size w9 (((w9.alloc (.cells #[.slice a ts.length cap, .int .i64 (i9 : Nat), .int .i64 fin, .int .i64 (n : Nat), .int .i64 c9, .int .i64 y9] 81)).alloc (.cells #[.int .i64 o.k, .int .i64 o.n, .string o.s] 47)).alloc (.cells #[.int .i64 o.k, .int .i64 o.n, .string o.s] 47)) := below_three _ _ _
        have hX9 : (((w9.alloc (.cells #[.slice a ts.length cap, .int .i64 (i9 : Nat), .int .i64 fin, .int .i64 (n : Nat), .int .i64 c9, .int .i64 y9] 81)).alloc (.cells #[.int .i64 o.k, .int .i64 o.n, .string o.s] 47)).alloc (.cells #[.int .i64 o.k, .int .i64 o.n, .string o.s] 47)).heap[w9.heap.size]? = some (.cells #[.slice a ts.length cap, .int .i64 (i9 : Nat), .int .i64 fin, .int .i64 (n : Nat), .int .i64 c9, .int .i64 y9] 81) := (Below.heap_alloc _ _ _ (by simp; omega)).trans ((Below.heap_alloc _ _ _ (by simp)).trans (heap_alloc_new w9 _))
        have hTM : (((w9.alloc (.cells #[.slice a ts.length cap, .int .i64 (i9 : Nat), .int .i64 fin, .int .i64 (n : Nat), .int .i64 c9, .int .i64 y9] 81)).alloc (.cells #[.int .i64 o.k, .int .i64 o.n, .string o.s] 47)).alloc (.cells #[.int .i64 o.k, .int .i64 o.n, .string o.s] 47)).heap[w9.heap.size + 2]? = some (.cells #[.int .i64 o.k, .int .i64 o.n, .string o.s] 47) := by
          have := heap_alloc_new ((w9.alloc (.cells #[.slice a ts.length cap, .int .i64 (i9 : Nat), .int .i64 fin, .int .i64 (n : Nat), .int .i64 c9, .int .i64 y9] 81)).alloc (.cells #[.int .i64 o.k, .int .i64 o.n, .string o.s] 47)) (.cells #[.int .i64 o.k, .int .i64 o.n, .string o.s] 47); simp only [World.size_alloc] at this; exact this
        obtain ⟨d0, d1, d2, d3, d4, d5, d6, d7, df, dz⟩ := cells8 hD9
        have e0 : w.heap.size < w9.heap.size := by omega
        have e1 : w.heap.size + 1 < w9.heap.size := by omega
        have e2 : w.heap.size + 1 + 1 < w9.heap.size := by omega
        go_wp2_with (at_builtin; refine wpList_append_lies _ rfl _ _ 28 rfl (w.heap.size + 4) 47 j0 _ 3 32 Tryz.underlying28 hj0 hy0 hy1 hy2 rfl (by decide) _ _ _ rfl (ownsRow_below ownA9 hbW) ⟨w9.heap.size + 2, 0, none⟩ 1 1 [.int .i64 o.k, .int .i64 o.n, .string o.s] rfl rfl (World.news_of_block (cs := #[.int .i64 o.k, .int .i64 o.n, .string o.s]) (t := 47) (fr := (0, 0)) hTM) (by simp [Value.oneCell']) Nat.one_pos hn63 hnby (by rw [hWz]; omega) (w9.heap.size + 3) hWz ?_)
        intro ga capa w10 hown10 hgrow hat10 hlt10
        have hQ10 := kgrow hgrow (kept hbW hQ9) (fun k' hk' => by have := hobA k' hk'; omega)
        have hR10 := kgrow hgrow (kept hbW hR9) (fun k' hk' => by have := hobA k' hk'; omega)
        have hD10 := kgrow hgrow (kept hbW hD9) (fun k' hk' => by have := hobA k' hk'; omega)
        have hX10 := kgrow hgrow hX9 (fun k' hk' => by have := hobA k' hk'; omega)
        have ownP10 : w10.ownsRow (w.heap.size + 4) 9 1 (.slice ap ps.length cp) ps.length (ps.map .string) := own_far (ownsRow_below ownP9 hbW) fun k' hk' hl' => hgrow.block k' hl' fun e => own_ne ownP9 ownA9 (by decide) k' hk' e.symm
        have hbw10 : Below w.heap.size w w10 := bgrow (hbw9.trans (hbW.mono hz9)) hgrow (fun k' hk' => by have := hobA k' hk'; omega) (by rw [hWz]; omega)
        have ownA10 : w10.ownsRow (w.heap.size + 4) 47 3 (.slice (some ⟨ga, 0, none⟩) (os.length + 1) capa) (os ++ [o]).length ((os ++ [o]).flatMap opCells) := by
          rw [List.flatMap_append, List.length_append]; exact hown10
        clear d0 d1 d2 d3 d4 d5 d6 d7 df dz hTM hbW hWz hobA hgrow hown10 hat10 hlt10 hX9 hP9 hQ9 hR9 hD9 ownA9 ownP9 hbw9
        obtain ⟨d0, d1, d2, d3, d4, d5, d6, d7, df, dz⟩ := cells8 hD10
        obtain ⟨x0, x1, x2, x3, x4, x5, xf⟩ := cells6 hX10
        obtain ⟨q0, q1, q2, q3, q4, q5, qf⟩ := cells6 hQ10
        obtain ⟨z0, z1, z2, z3, z4, z5, z6, z7, zf, zz⟩ := cells8 hR10
        have hzd : w.heap.size < w10.heap.size := by omega
        have hzq : w.heap.size + 1 < w10.heap.size := by omega
        have hxx := hlt_ hX10
        go_wp2_with fail
        go_region
        all_goals
          go_wp2_with fail
          refine bodyPost_ret (v := .tuple #[.agg #[.slice a ts.length cap, .int .i64 (i9 : Nat), .int .i64 fin, .int .i64 (n : Nat), .int .i64 c9, .int .i64 y9], .agg #[.int .i64 4, .string ⟨#[]⟩, .string ⟨#[]⟩, .string ⟨#[]⟩, (.slice (some ⟨ga, 0, none⟩) (os.length + 1) capa), .slice ap ps.length cp, .slice none 0 0, .slice none 0 0]]) (by simp [results, Tryz.results101, go_sem, q0, q1, q2, q3, q4, q5, z0, z1, z2, z3, z4, z5, z6, z7, hzd, hzq, zz, dz]) rfl ⟨?_, i9, c9, y9, _, ⟨4, M.em, M.em, os ++ [o], ps⟩, rfl, by rw [HX.out, HE.out.1]; exact h9, ⟨_, _, rfl, ?_, ?_⟩, fun S' x e => by rw [HX.out] at e; exact HE.out.2 _ _ e⟩
          · repeat (first | with_reducible exact hbw10 | with_reducible refine Below.setCell ?_ (by first | (simp; done) | (simp; omega)) _ | with_reducible refine Below.drew ?_)
          · refine ((SlAt.of_owns (X := fun b => b < w.heap.size + 4) ownA10 (fun b hb hx => by omega) (by simp; omega)).keep ?_).weak fun b _ hx hy => hx (by have : b < w.heap.size := hy; omega)
            repeat (first | with_reducible exact keep_self | with_reducible refine keep_drew ?_ | with_reducible refine Keep.trans ?_ (keep_set (by first | (simp; done) | (simp; omega)) _))
          · refine ((SlAt.of_owns (X := fun b => b < w.heap.size + 4) ownP10 (fun b hb hx => by omega) (by omega)).keep ?_).weak fun b _ hx hy => hx (by have : b < w.heap.size := hy; omega)
            repeat (first | with_reducible exact keep_self | with_reducible refine keep_drew ?_ | with_reducible refine Keep.trans ?_ (keep_set (by first | (simp; done) | (simp; omega)) _))
end Go.Proofs.YtkpmpnebmkeocaaGreatDoor
end
