/-
  The walks of a layer's arguments, object and value. No conditions but that operands' numbers are some.
-/
import Derived.Test.YtkpmpnebmkeocaaGreatDoorY6
set_option linter.unusedVariables false
set_option linter.unusedSimpArgs false
namespace Go.Proofs.YtkpmpnebmkeocaaGreatDoor
open Go.RowKit

theorem box2_new {B : Nat} {w : World} {X : Nat → Prop} {L : Nat} {s : Option (List UInt8)} (h : Lay B w X L s) (o1 o2 : Obj) (A : World → Prop) (hA : A ((w.alloc o1).alloc o2)) :
    Box2 w.heap.size (w.heap.size + 1) o1 o2 A X ((w.alloc o1).alloc o2) ∧ Lay B ((w.alloc o1).alloc o2) X L s ∧ Below w.heap.size w ((w.alloc o1).alloc o2) ∧ ((w.alloc o1).alloc o2).heap.size = w.heap.size + 1 + 1 := by
  have hb : Below w.heap.size w ((w.alloc o1).alloc o2) := ((Below.refl _ w).alloc (Nat.le_refl _) _).alloc (by simp) _
  refine ⟨⟨⟨heap_al (heap_alloc_new w o1), fun hx => Nat.lt_irrefl _ (h.far _ hx).2⟩, ⟨?_, fun hx => by have := (h.far _ hx).2; omega⟩, hA⟩, h.keep hb, hb, by simp⟩
  have := heap_alloc_new (w.alloc o1) o2
  rwa [World.size_alloc] at this
theorem SlAt.al {w : World} {B : Nat} {X : Nat → Prop} {v : Value} {n : Nat} {cs : List Value} (h : SlAt w X v n cs) {w' : World} (hb : Below w.heap.size w w') : SlAt w' X v n cs := h.keep (Below.keepX hb)
theorem range_laidSeq (item : Nat → List ByteArray) (n : Nat) : restL item n 0 = M.laidSeq ((List.range n).map item) := by
  unfold restL
  rw [if_pos rfl, List.range_eq_range']

set_option maxRecDepth 8000 in
set_option maxHeartbeats 2000000 in
theorem larguments_any (B : Nat) (w : World) (X : Nat → Prop) (L : Nat) (s : Option (List UInt8)) (va : Value) (a : List M.Opd) (h : Lay B w X L s) (ha : OpsAt w (Hi B) va a) (hr : ∀ o ∈ a, InI o.n) :
    Calls Tryz.prog 67 #[.pointer (some ⟨L, 0, none⟩), va] w (LayE B X L w (M.putsM s (M.laidOps a))) := by
  obtain ⟨hl, a1, cap1, rfl, hrest⟩ := id ha
  have hb0 : Below w.heap.size w ((w.alloc (.cells #[.pointer (some ⟨L, 0, none⟩)] 51)).alloc (.cells #[.slice a1 a.length cap1] 28)) := ((Below.refl _ w).alloc (Nat.le_refl _) _).alloc (by simp) _
  obtain ⟨bx, h0, _, hz⟩ := box2_new h (.cells #[.pointer (some ⟨L, 0, none⟩)] 51) (.cells #[.slice a1 a.length cap1] 28) (fun w => OpsAt w (Hi B) (.slice a1 a.length cap1) a) (SlAt.keep ha (Below.keepX hb0))
  have HZ := hid hz
  have HS : Hid (Stays B (Box2 w.heap.size (w.heap.size + 1) (.cells #[.pointer (some ⟨L, 0, none⟩)] 51) (.cells #[.slice a1 a.length cap1] 28) (fun w => OpsAt w (Hi B) (.slice a1 a.length cap1) a))) := Box2.stays (fun w w' h k => SlAt.keep h k)
  have HQ : Hid (M.laidOps a = [M.ch 40] ++ (restL (M.laidAt a) a.length 0 ++ [M.ch 41])) := by unfold Hid; rw [range_laidSeq]; rfl
  clear hz hrest
  go_enter Tryz.func67, Tryz.ntmps67
  go_wp2_with (go_at_call 43; refine stopHere ?_)
  refine stopAt ?_
  refine (put_newAt B _ X L s [M.ch 40] (w.heap.size + 1 + 1) HZ.out h0 (by simp)).mono ?_
  rintro e w1 ⟨rfl, X1, l1, t1, x1⟩
  have b1 := HS.out X X1 _ w1 bx t1 x1 (fun k hk => (h.far k hk).1)
  have e1 := cell0 b1.1.1
  have e2 := cell0 b1.2.1.1
  go_wp2_with (go_at_call 74; refine stopHere ?_)
  refine stopAt ?_
  refine (llist_arg B L a.length (.pointer (some ⟨w.heap.size, 0, none⟩)) (.pointer (some ⟨w.heap.size + 1, 0, none⟩)) (M.laidAt a) _ HS.out hl (fun i X w s hi h hb => argItem_any B L _ _ _ a hr i X w s hi h hb) X1 w1 _ l1 b1).mono ?_
  rintro e w2 ⟨rfl, X2, l2, t2, x2⟩
  have b2 := HS.out X1 X2 w1 w2 b1 t2 x2 (fun k hk => (l1.far k hk).1)
  clear e1 e2
  have e1 := cell0 b2.1.1
  go_wp2_with (go_at_call 43; refine stopHere ?_)
  refine stopAt ?_
  refine (put_new B w2 X2 L _ [M.ch 41] l2 (by simp)).mono ?_
  rintro e w3 ⟨rfl, hr3⟩
  go_wp2_with fail
  go_end0
  exact ⟨rfl, by rw [HQ.out, M.putsM_app, M.putsM_app]; exact LayR.new hb0 (LayR.next t1 x1 (LayR.next t2 x2 hr3))⟩

set_option maxRecDepth 8000 in
set_option maxHeartbeats 2000000 in
theorem lobject_any (B : Nat) (w : World) (X : Nat → Prop) (L : Nat) (s : Option (List UInt8)) (op : Int) (x y p : ByteArray) (va vp vt ve : Value) (a : List M.Opd) (pr : List ByteArray) (h : Lay B w X L s) (ha : OpsAt w (Hi B) va a) (hp : StrsAt w (Hi B) vp pr) (hr : ∀ o ∈ a, InI o.n) :
    Calls Tryz.prog 66 #[.pointer (some ⟨L, 0, none⟩), .agg #[.int .i64 op, .string x, .string y, .string p, va, vp, vt, ve]] w (LayE B X L w (M.putsM s (M.laidNew pr a))) := by
  obtain ⟨hl, a1, cap1, rfl, hrest⟩ := id ha
  obtain ⟨hlp, a2, cap2, rfl, hrest2⟩ := id hp
  have hb0 : Below w.heap.size w ((w.alloc (.cells #[.pointer (some ⟨L, 0, none⟩)] 51)).alloc (.cells #[.int .i64 op, .string x, .string y, .string p, .slice a1 a.length cap1, .slice a2 pr.length cap2, vt, ve] 32)) := ((Below.refl _ w).alloc (Nat.le_refl _) _).alloc (by simp) _
  obtain ⟨bx, h0, _, hz⟩ := box2_new h (.cells #[.pointer (some ⟨L, 0, none⟩)] 51) (.cells #[.int .i64 op, .string x, .string y, .string p, .slice a1 a.length cap1, .slice a2 pr.length cap2, vt, ve] 32) (fun w => OpsAt w (Hi B) (.slice a1 a.length cap1) a ∧ StrsAt w (Hi B) (.slice a2 pr.length cap2) pr) ⟨SlAt.keep ha (Below.keepX hb0), SlAt.keep hp (Below.keepX hb0)⟩
  have HZ := hid hz
  have HS : Hid (Stays B (Box2 w.heap.size (w.heap.size + 1) (.cells #[.pointer (some ⟨L, 0, none⟩)] 51) (.cells #[.int .i64 op, .string x, .string y, .string p, .slice a1 a.length cap1, .slice a2 pr.length cap2, vt, ve] 32) (fun w => OpsAt w (Hi B) (.slice a1 a.length cap1) a ∧ StrsAt w (Hi B) (.slice a2 pr.length cap2) pr))) := Box2.stays (fun w w' h k => ⟨SlAt.keep h.1 k, SlAt.keep h.2 k⟩)
  have HQ : Hid (M.laidNew pr a = [M.ch 123] ++ (restL (M.laidProp pr a) pr.length 0 ++ ([M.ch 125, M.kProto] ++ M.laidAt a pr.length))) := by unfold Hid; rw [range_laidSeq]; rfl
  clear hz hrest hrest2
  go_enter Tryz.func66, Tryz.ntmps66
  go_wp2_with (go_at_call 43; refine stopHere ?_)
  refine stopAt ?_
  refine (put_newAt B _ X L s [M.ch 123] (w.heap.size + 1 + 1) HZ.out h0 (by simp)).mono ?_
  rintro e w1 ⟨rfl, X1, l1, t1, x1⟩
  have b1 := HS.out X X1 _ w1 bx t1 x1 (fun k hk => (h.far k hk).1)
  have e1 := cell0 b1.1.1
  obtain ⟨j0, j1, j2, j3, j4, j5, j6, j7, jf, jz⟩ := cells8 b1.2.1.1
  go_wp2_with (go_at_call 74; refine stopHere ?_)
  refine stopAt ?_
  refine (llist_obj B L pr.length (.pointer (some ⟨w.heap.size, 0, none⟩)) (.pointer (some ⟨w.heap.size + 1, 0, none⟩)) (M.laidProp pr a) _ HS.out hlp (fun i X w s hi h hb => objItem_any B L _ _ op x y p _ _ _ _ a pr hr i X w s hi h hb) X1 w1 _ l1 b1).mono ?_
  rintro e w2 ⟨rfl, X2, l2, t2, x2⟩
  have b2 := HS.out X1 X2 w1 w2 b1 t2 x2 (fun k hk => (l1.far k hk).1)
  clear e1 j0 j1 j2 j3 j4 j5 j6 j7 jf jz
  have e1 := cell0 b2.1.1
  go_wp2_with (go_at_call 43; refine stopHere ?_)
  refine stopAt ?_
  refine (put_new B w2 X2 L _ [M.ch 125, M.kProto] l2 (by simp)).mono ?_
  rintro e w3 ⟨rfl, X3, l3, t3, x3⟩
  have b3 := HS.out X2 X3 w2 w3 b2 t3 x3 (fun k hk => (l2.far k hk).1)
  clear e1
  have e1 := cell0 b3.1.1
  obtain ⟨j0, j1, j2, j3, j4, j5, j6, j7, jf, jz⟩ := cells8 b3.2.1.1
  go_wp2_with (go_at_call 42; refine stopHere ?_)
  refine stopAt ?_
  refine (loperand_any B w3 X3 L _ _ a pr.length l3 b3.2.2.1 hr hlp).mono ?_
  rintro e w4 ⟨rfl, hr4⟩
  go_wp2_with fail
  go_end0
  exact ⟨rfl, by rw [HQ.out, M.putsM_app, M.putsM_app, M.putsM_app]; exact LayR.new hb0 (LayR.next t1 x1 (LayR.next t2 x2 (LayR.next t3 x3 hr4)))⟩
end Go.Proofs.YtkpmpnebmkeocaaGreatDoor
