/-
  The walks of a layer's three closures, of its arguments and of its object. No conditions but that operands' numbers are some.
-/
import Derived.Test.YtkpmpnebmkeocaaGreatDoorY5
import Derived.Deep.RegionHeld3
set_option linter.unusedVariables false
set_option linter.unusedSimpArgs false
namespace Go.Proofs.YtkpmpnebmkeocaaGreatDoor
open Go.RowKit

def Box2 (k1 k2 : Nat) (o1 o2 : Obj) (A : World → Prop) (X : Nat → Prop) (w : World) : Prop := (w.heap[k1]? = some o1 ∧ ¬ X k1) ∧ (w.heap[k2]? = some o2 ∧ ¬ X k2) ∧ A w
theorem Box2.stays {B k1 k2 : Nat} {o1 o2 : Obj} {A : World → Prop} (hA : ∀ w w', A w → Keep (Hi B) w w' → A w') : Stays B (Box2 k1 k2 o1 o2 A) := by
  rintro X X' w w' ⟨⟨h1, n1⟩, ⟨h2, n2⟩, ha⟩ ht hx hB
  have l1 := (Array.getElem?_eq_some_iff.1 h1).1
  have l2 := (Array.getElem?_eq_some_iff.1 h2).1
  exact ⟨⟨(ht.block k1 l1 n1).trans h1, fun h => by rcases hx k1 h with h | h; exact n1 h; omega⟩, ⟨(ht.block k2 l2 n2).trans h2, fun h => by rcases hx k2 h with h | h; exact n2 h; omega⟩, hA w w' ha (ht.keepHi hB)⟩
theorem getD_at {l : List ByteArray} {i : Nat} (h : i < l.length) : l.getD i M.em = l[i] := by rw [List.getD_eq_getElem?_getD, List.getElem?_eq_getElem h]; rfl

set_option maxHeartbeats 2000000 in
theorem funItem_any (B L k1 k2 : Nat) (nm : ByteArray) (vp vb : Value) (ps : List ByteArray) (i : Nat) (X : Nat → Prop) (w : World) (s : Option (List UInt8)) (hi : i < ps.length) (h : Lay B w X L s)
    (hb : Box2 k1 k2 (.cells #[.pointer (some ⟨L, 0, none⟩)] 51 (0, 0)) (.cells #[.string nm, vp, vb] 34 (0, 0)) (fun w => StrsAt w (Hi B) vp ps) X w) :
    Calls Tryz.prog 75 #[.int .i64 (i : Nat), .pointer (some ⟨k1, 0, none⟩), .pointer (some ⟨k2, 0, none⟩)] w (LayE B X L w (M.putsM s [ps.getD i M.em])) := by
  obtain ⟨⟨h1, n1⟩, ⟨h2, n2⟩, ha⟩ := hb
  have hav := ha
  obtain ⟨hlen, ad, cap, rfl, hc⟩ := strs_cells ha
  rcases hc with rfl | ⟨b, o, rfl, hlt, hc⟩
  · simp at hi
  have nb : ¬ X b := by
    obtain ⟨_, a', c', e', hh⟩ := hav
    simp only [Value.slice.injEq, true_and] at e'
    obtain ⟨rfl, rfl⟩ := e'
    rcases hh with ⟨hh, _⟩ | ⟨b', o', e', _, hr', _⟩
    · omega
    · simp only [Option.some.injEq, Addr.mk.injEq, and_true] at e'
      obtain ⟨rfl, rfl⟩ := e'
      exact fun hx => hr'.1 (h.far _ hx).1
  have f0 : w.drew.cell? ⟨b, o + i, none⟩ = some (.string ps[i]) := hc i hi
  rw [getD_at hi]
  have hii2 : (i : Int) < (ps.length : Int) := by omega
  generalize ps[i] = t at f0
  have e1 := cell0 (show w.drew.heap[k1]? = _ from h1)
  obtain ⟨g0, g1, g2, gf, gz⟩ := cells3 (show w.drew.heap[k2]? = _ from h2)
  have HP : Hid (Calls Tryz.prog 43 #[.pointer (some ⟨L, 0, none⟩), .slice (some ⟨w.heap.size, 0, none⟩) 1 1] (w.drew.alloc (.cells #[.string t] 9)) (LayE B X L w.drew (M.putsM s [t]))) := put_new B w.drew X L s [t] h.drew (by simp)
  have hbd : Below w.heap.size w w.drew := (Below.refl _ _).drew
  have KH : Hid (∀ W, Below w.heap.size w W → W.cell? ⟨k1, 0, none⟩ = some (.pointer (some ⟨L, 0, none⟩)) ∧ W.cell? ⟨k2, 1, none⟩ = some (.slice (some ⟨b, o, none⟩) ps.length cap) ∧ W.cell? ⟨b, o + i, none⟩ = some (.string t)) := fun W hW =>
    ⟨(hW.cell (p := ⟨k1, 0, none⟩) (Array.getElem?_eq_some_iff.1 h1).1).trans e1, (hW.cell (p := ⟨k2, 1, none⟩) (Array.getElem?_eq_some_iff.1 h2).1).trans g1, (hW.cell (p := ⟨b, o + i, none⟩) hlt).trans f0⟩
  have KR : Hid (∀ W s', LayR B X L w.drew s' W → W.cell? ⟨k1, 0, none⟩ = some (.pointer (some ⟨L, 0, none⟩)) ∧ W.cell? ⟨k2, 1, none⟩ = some (.slice (some ⟨b, o, none⟩) ps.length cap) ∧ W.cell? ⟨b, o + i, none⟩ = some (.string t)) := fun W s' hW => by
    obtain ⟨_, _, ht, _⟩ := hW
    exact ⟨(World.cell?_of_block (w := w.drew) (a := ⟨k1, 0, none⟩) (ht.block k1 (Array.getElem?_eq_some_iff.1 h1).1 n1)).trans e1, (World.cell?_of_block (w := w.drew) (a := ⟨k2, 1, none⟩) (ht.block k2 (Array.getElem?_eq_some_iff.1 h2).1 n2)).trans g1, (World.cell?_of_block (w := w.drew) (a := ⟨b, o + i, none⟩) (ht.block b hlt nb)).trans f0⟩
  clear hc ha
  go_enter Tryz.func75, Tryz.ntmps75
  go_wp2_with fail
  go_region_held3 (fun w' => w'.cell? ⟨k1, 0, none⟩ = some (.pointer (some ⟨L, 0, none⟩)) ∧ w'.cell? ⟨k2, 1, none⟩ = some (.slice (some ⟨b, o, none⟩) ps.length cap) ∧ w'.cell? ⟨b, o + i, none⟩ = some (.string t)) (first | exact KR.out _ _ hr2 | exact KH.out _ ((Below.refl _ _).alloc (Nat.le_refl _) _).drew | exact KH.out _ (Below.refl _ _).drew | go_keep) (first | (go_at_call 43; refine HP.out.mono ?_; rintro e w2 ⟨rfl, hr2⟩))
  all_goals
    go_wp2_with fail
    go_end0
    exact ⟨rfl, LayR.new hbd hr2⟩
set_option maxHeartbeats 2000000 in
theorem argItem_any (B L k1 k2 : Nat) (va : Value) (a : List M.Opd) (hr : ∀ o ∈ a, InI o.n) (i : Nat) (X : Nat → Prop) (w : World) (s : Option (List UInt8)) (hi : i < a.length) (h : Lay B w X L s)
    (hb : Box2 k1 k2 (.cells #[.pointer (some ⟨L, 0, none⟩)] 51 (0, 0)) (.cells #[va] 28 (0, 0)) (fun w => OpsAt w (Hi B) va a) X w) :
    Calls Tryz.prog 89 #[.int .i64 (i : Nat), .pointer (some ⟨k1, 0, none⟩), .pointer (some ⟨k2, 0, none⟩)] w (LayE B X L w (M.putsM s (M.laidAt a i))) := by
  obtain ⟨⟨h1, n1⟩, ⟨h2, n2⟩, ha⟩ := hb
  have e1 := cell0 h1
  have e2 := cell0 h2
  have ha2 := ha
  obtain ⟨hl, a1, cap1, rfl, _⟩ := ha
  go_enter Tryz.func89, Tryz.ntmps89
  go_wp2_with (go_at_call 42; refine stopHere ?_)
  refine stopAt ?_
  refine (loperand_any B w X L s _ a i h ha2 hr (by omega)).mono ?_
  rintro e w2 ⟨rfl, hr2⟩
  go_wp2_with fail
  go_end0
  exact ⟨rfl, hr2⟩
set_option maxHeartbeats 2000000 in
theorem objItem_any (B L k1 k2 : Nat) (op : Int) (x y p : ByteArray) (va vp vt ve : Value) (a : List M.Opd) (pr : List ByteArray) (hr : ∀ o ∈ a, InI o.n) (i : Nat) (X : Nat → Prop) (w : World) (s : Option (List UInt8)) (hi : i < pr.length) (h : Lay B w X L s)
    (hb : Box2 k1 k2 (.cells #[.pointer (some ⟨L, 0, none⟩)] 51 (0, 0)) (.cells #[.int .i64 op, .string x, .string y, .string p, va, vp, vt, ve] 32 (0, 0)) (fun w => OpsAt w (Hi B) va a ∧ StrsAt w (Hi B) vp pr) X w) :
    Calls Tryz.prog 88 #[.int .i64 (i : Nat), .pointer (some ⟨k1, 0, none⟩), .pointer (some ⟨k2, 0, none⟩)] w (LayE B X L w (M.putsM s (M.laidProp pr a i))) := by
  have hst := Box2.stays (B := B) (k1 := k1) (k2 := k2) (o1 := .cells #[.pointer (some ⟨L, 0, none⟩)] 51 (0, 0)) (o2 := .cells #[.int .i64 op, .string x, .string y, .string p, va, vp, vt, ve] 32 (0, 0)) (A := fun w => OpsAt w (Hi B) va a ∧ StrsAt w (Hi B) vp pr) (fun w w' h k => ⟨SlAt.keep h.1 k, SlAt.keep h.2 k⟩)
  have HS := hid hst
  clear hst
  have hb0 := hb
  obtain ⟨⟨h1, n1⟩, ⟨h2, n2⟩, hops, ha⟩ := hb
  have hav := ha
  obtain ⟨hlen, ad, cap, rfl, hc⟩ := strs_cells ha
  rcases hc with rfl | ⟨b, o, rfl, hlt, hc⟩
  · simp at hi
  have nb : ¬ X b := by
    obtain ⟨_, a', c', e', hh⟩ := hav
    simp only [Value.slice.injEq, true_and] at e'
    obtain ⟨rfl, rfl⟩ := e'
    rcases hh with ⟨hh, _⟩ | ⟨b', o', e', _, hr', _⟩
    · omega
    · simp only [Option.some.injEq, Addr.mk.injEq, and_true] at e'
      obtain ⟨rfl, rfl⟩ := e'
      exact fun hx => hr'.1 (h.far _ hx).1
  have f0 : w.drew.cell? ⟨b, o + i, none⟩ = some (.string pr[i]) := hc i hi
  have HQ : Hid (M.laidProp pr a i = [pr[i], M.ch 58] ++ M.laidAt a i) := by unfold Hid M.laidProp; rw [getD_at hi]; rfl
  have hii2 : (i : Int) < (pr.length : Int) := by omega
  generalize pr[i] = t at f0 HQ
  obtain ⟨hl, a1, cap1, rfl, _⟩ := hops
  have e1 := cell0 (show w.drew.heap[k1]? = _ from h1)
  obtain ⟨g0, g1, g2, g3, g4, g5, g6, g7, gf, gz⟩ := cells8 (show w.drew.heap[k2]? = _ from h2)
  have HP : Hid (Calls Tryz.prog 43 #[.pointer (some ⟨L, 0, none⟩), .slice (some ⟨w.heap.size, 0, none⟩) 2 2] (w.drew.alloc (.cells #[.string t, .string (M.ch 58)] 9)) (LayE B X L w.drew (M.putsM s [t, M.ch 58]))) := put_new B w.drew X L s [t, M.ch 58] h.drew (by simp)
  have hbd : Below w.heap.size w w.drew := (Below.refl _ _).drew
  have KH : Hid (∀ W, Below w.heap.size w W → W.cell? ⟨k1, 0, none⟩ = some (.pointer (some ⟨L, 0, none⟩)) ∧ W.cell? ⟨k2, 5, none⟩ = some (.slice (some ⟨b, o, none⟩) pr.length cap) ∧ W.cell? ⟨b, o + i, none⟩ = some (.string t)) := fun W hW =>
    ⟨(hW.cell (p := ⟨k1, 0, none⟩) (Array.getElem?_eq_some_iff.1 h1).1).trans e1, (hW.cell (p := ⟨k2, 5, none⟩) (Array.getElem?_eq_some_iff.1 h2).1).trans g5, (hW.cell (p := ⟨b, o + i, none⟩) hlt).trans f0⟩
  have KR : Hid (∀ W s', LayR B X L w.drew s' W → W.cell? ⟨k1, 0, none⟩ = some (.pointer (some ⟨L, 0, none⟩)) ∧ W.cell? ⟨k2, 5, none⟩ = some (.slice (some ⟨b, o, none⟩) pr.length cap) ∧ W.cell? ⟨b, o + i, none⟩ = some (.string t)) := fun W s' hW => by
    obtain ⟨_, _, ht, _⟩ := hW
    exact ⟨(World.cell?_of_block (w := w.drew) (a := ⟨k1, 0, none⟩) (ht.block k1 (Array.getElem?_eq_some_iff.1 h1).1 n1)).trans e1, (World.cell?_of_block (w := w.drew) (a := ⟨k2, 5, none⟩) (ht.block k2 (Array.getElem?_eq_some_iff.1 h2).1 n2)).trans g5, (World.cell?_of_block (w := w.drew) (a := ⟨b, o + i, none⟩) (ht.block b hlt nb)).trans f0⟩
  clear hc ha
  go_enter Tryz.func88, Tryz.ntmps88
  go_wp2_with fail
  go_region_held3 (fun w' => w'.cell? ⟨k1, 0, none⟩ = some (.pointer (some ⟨L, 0, none⟩)) ∧ w'.cell? ⟨k2, 5, none⟩ = some (.slice (some ⟨b, o, none⟩) pr.length cap) ∧ w'.cell? ⟨b, o + i, none⟩ = some (.string t)) (first | exact KR.out _ _ hr2 | exact KH.out _ ((Below.refl _ _).alloc (Nat.le_refl _) _).drew | exact KH.out _ (Below.refl _ _).drew | go_keep) (first | (go_at_call 43; refine HP.out.mono ?_; rintro e w2 ⟨rfl, hr2⟩))
  all_goals
    obtain ⟨X2, l2, t2, x2⟩ := LayR.new hbd hr2
    have hb2 := HS.out X X2 w _ hb0 t2 x2 (fun k hk => (h.far k hk).1)
    obtain ⟨⟨i1, _⟩, ⟨i2, _⟩, io, _⟩ := hb2
    have c1 := cell0 i1
    obtain ⟨j0, j1, j2, j3, j4, j5, j6, j7, jf, jz⟩ := cells8 i2
    clear e1 g0 g1 g2 g3 g4 g5 g6 g7 gf f0
    go_wp2_with (go_at_call 42; refine stopHere ?_)
    refine stopAt ?_
    refine (loperand_any B _ X2 L _ _ a i l2 io hr (by omega)).mono ?_
    rintro e w3 ⟨rfl, hr3⟩
    go_wp2_with fail
    go_end0
    exact ⟨rfl, by rw [HQ.out, M.putsM_app]; exact LayR.next t2 x2 hr3⟩
end Go.Proofs.YtkpmpnebmkeocaaGreatDoor
