/-
  proteanlaw02.ParseParts, walked: whatever the two strings are: true, and all that was there is as it was. No conditions.
-/
import Derived.Test.YtbgkaiajodjpnaaDoorS9
import Derived.Deep.RegionHeldLaw
set_option linter.unusedVariables false
namespace Go.Proofs.YtbgkaiajodjpnaaDoor
open Go.RowKit
namespace ParseParts

theorem join_list (a b : ByteArray) : (a ++ (⟨#[10]⟩ : ByteArray) ++ b).data.toList = a.data.toList ++ (10 :: b.data.toList) := by
  simp
theorem join_size (a b : ByteArray) : (a ++ (⟨#[10]⟩ : ByteArray) ++ b).size = a.size + 1 + b.size := by
  rw [← len_list, join_list]; simp; omega

/-- a program and a fault in two new blocks, behind whatever keeps them -/
theorem two_new {w w' : World} {x y z : Value} {t u : TypeId} (h : Below (w.heap.size + 2) ((w.alloc (.cells #[x] t)).alloc (.cells #[y, z] u)) w') :
    w'.heap[w.heap.size]? = some (.cells #[x] t) ∧ w'.cell? ⟨w.heap.size, 0, none⟩ = some x ∧ w'.cell? ⟨w.heap.size + 1, 0, none⟩ = some y ∧ w.heap.size + 2 ≤ w'.heap.size ∧ Below w.heap.size w w' := by
  have h1 : ((w.alloc (.cells #[x] t)).alloc (.cells #[y, z] u)).heap[w.heap.size]? = some (.cells #[x] t) := (Below.heap_alloc _ _ _ (by simp)).trans (heap_alloc_new w _)
  have h2 : ((w.alloc (.cells #[x] t)).alloc (.cells #[y, z] u)).heap[w.heap.size + 1]? = some (.cells #[y, z] u) := by
    have := heap_alloc_new (w.alloc (.cells #[x] t)) (.cells #[y, z] u)
    simp only [World.size_alloc] at this; exact this
  have k1 := (h.block w.heap.size (by omega)).trans h1
  have k2 := (h.block (w.heap.size + 1) (by omega)).trans h2
  have hz := h.size
  simp only [World.size_alloc] at hz
  exact ⟨k1, cell0 k1, by rw [Lib.cell_of_heap k2]; rfl, hz, (((Below.refl _ _).alloc (Nat.le_refl _) _).alloc (by simp) _).trans (h.mono (by omega))⟩

/-- a row of functions lies in no program's block -/
theorem own_ne {w : World} {base n g : Nat} {v : Value} {xs : List Value} (h : w.ownsRow base 43 3 v n xs) (hg : w.heap[g]? = some zero1) : v.ownBlock ≠ some g := by
  intro e
  rcases h.2 with ⟨rfl, _⟩ | ⟨k, cap, cur, rfl, _, hh, _⟩
  · cases e
  · simp only [Value.ownBlock, Option.some.injEq] at e
    subst e
    rw [hg] at hh
    simp at hh

theorem own_set {w : World} {base n g : Nat} {v : Value} {xs : List Value} (h : w.ownsRow base 43 3 v n xs) (hg : w.heap[g]? = some zero1) (u : Value) : (w.setCell ⟨g, 0, none⟩ u).ownsRow base 43 3 v n xs :=
  h.kept (w' := w.setCell ⟨g, 0, none⟩ u) (row := some g) ⟨rfl, rfl, rfl, by simp [World.setCell], fun k hk hne => Below.heap_setCell _ _ _ _ fun e => hne (by rw [e])⟩ (.inr (own_ne h hg))
/-- the functions of the one, and then of the other one -/
theorem prog_new {w5 w8 : World} {a : Option Addr} {cap : Nat} {p q : List M.Fn} {cs1 cs2 : List Value} (hB : Below w5.heap.size w5 w8) (fn1 : FnsAt w5 NoX cs1 p) (fn2 : FnsAt w5 NoX cs2 q)
    (h : w8.ownsRow w5.heap.size 43 3 (.slice a (p.length + q.length) cap) (p.length + q.length) (cs1 ++ cs2)) (hn : p.length + q.length ≤ 200000) : ProgAt w8 NoX (.slice a (p.length + q.length) cap) (p ++ q) := by
  refine ⟨cs1 ++ cs2, ?_, FnsAt.app (FnsAt.keep (Below.keepX hB) fn1) (FnsAt.keep (Below.keepX hB) fn2)⟩
  rw [List.length_append]
  exact SlAt.of_owns h (fun _ _ h => h) (by omega)

set_option maxRecDepth 8000 in
set_option maxHeartbeats 1600000 in
/-- one of the two is no program, or is too long -/
theorem walk_not (a0 a1 : ByteArray) (w : World) (h0 : a0.size ≤ maxLen) (h1 : a1.size ≤ maxLen) (p q : List M.Fn) (x1 y1 x2 y2 : Int)
    (H1 : Hid (M.parseR a0.data.toList = (p, (x1, y1)))) (H2 : Hid (M.parseR a1.data.toList = (q, (x2, y2))))
    (hc : x1 ≠ 0 ∨ (x1 = 0 ∧ x2 ≠ 0) ∨ (x1 = 0 ∧ x2 = 0 ∧ 5000 < a0.size) ∨ (x1 = 0 ∧ x2 = 0 ∧ a0.size ≤ 5000 ∧ 5000 < a1.size)) :
    Calls Tryd.prog 4 #[.string a0, .string a1] w fun e w' => e = .returned (.bool true) ∧ Below w.heap.size w w' := by
  have hs25 := stood25
  have hg25 := guard25
  unfold maxLen at h0 h1
  go_enter Tryd.func4, Tryd.ntmps4
  go_wp2_with fail
  refine (parseAt _ _ _ _ _ (by unfold maxLen; omega) rfl H1.out).mono ?_
  rintro e w1 ⟨hb1, b1, c1, rfl, hP1⟩
  go_wp2_with fail
  refine (parseAt _ _ _ _ _ (by unfold maxLen; omega) rfl H2.out).mono ?_
  rintro e w2 ⟨hb2, b2, c2, rfl, hP2⟩
  go_wp2_with fail
  refine (fixed_any _).mono ?_
  rintro e w3 ⟨rfl, hb3⟩
  simp only [World.size_alloc] at hb2 hb3
  obtain ⟨_, _, q2, z2, k2⟩ := two_new hb3
  obtain ⟨_, _, q1, z1, k1⟩ := two_new (hb2.trans (k2.mono (by have := hb2.size; simp only [World.size_alloc] at this; omega)))
  have hl1 : w1.heap.size + 1 < w3.heap.size := by omega
  have hl2 : w2.heap.size + 1 < w3.heap.size := by omega
  have hbb : Below w.heap.size w w3 := hb1.trans (k1.mono hb1.size)
  rcases hc with hc | ⟨rfl, hc⟩ | ⟨rfl, rfl, hc⟩ | ⟨rfl, rfl, hc, hd⟩
  all_goals
    go_wp2_with (go_at_call 7; refine (fixed_any _).mono ?_; rintro e w4 ⟨rfl, hb4⟩)
    go_ret
    exact ⟨rfl, hbb.trans (hb4.mono hbb.size)⟩

set_option maxRecDepth 8000 in
set_option maxHeartbeats 3200000 in
theorem walk_yes (a0 a1 : ByteArray) (w : World) (c0 : a0.size ≤ 5000) (c1 : a1.size ≤ 5000) (p q r : List M.Fn) (x y : Int) (hp : p.length ≤ 65536) (hq : q.length ≤ 65536)
    (H1 : Hid (M.parseR a0.data.toList = (p, (0, 0)))) (H2 : Hid (M.parseR a1.data.toList = (q, (0, 0)))) (H3 : Hid (M.parseR (a0.data.toList ++ (10 :: a1.data.toList)) = (r, (x, y))))
    (hc : x = 22 ∨ (x = 0 ∧ Hid (r = p ++ q))) :
    Calls Tryd.prog 4 #[.string a0, .string a1] w fun e w' => e = .returned (.bool true) ∧ Below w.heap.size w w' := by
  have hs25 := stood25
  have hg25 := guard25
  have HJ := hid (join_size a0 a1)
  go_enter Tryd.func4, Tryd.ntmps4
  go_wp2_with fail
  refine (parseAt _ _ _ _ _ (by unfold maxLen; omega) rfl H1.out).mono ?_
  rintro e w1 ⟨hb1, b1, c1, rfl, hP1⟩
  go_wp2_with fail
  refine (parseAt _ _ _ _ _ (by unfold maxLen; omega) rfl H2.out).mono ?_
  rintro e w2 ⟨hb2, b2, c2, rfl, hP2⟩
  go_wp2_with fail
  refine (fixed_any _).mono ?_
  rintro e w3 ⟨rfl, hb3⟩
  simp only [World.size_alloc] at hb2 hb3
  obtain ⟨_, l2, q2, z2, k2⟩ := two_new hb3
  obtain ⟨_, l1, q1, z1, k1⟩ := two_new (hb2.trans (k2.mono (by have := hb2.size; simp only [World.size_alloc] at this; omega)))
  have hl1 : w1.heap.size + 1 < w3.heap.size := by omega
  have hl2 : w2.heap.size + 1 < w3.heap.size := by omega
  go_wp2_with fail
  refine (parseAt _ _ _ _ _ (by rw [HJ.out]; unfold maxLen; omega) (join_list a0 a1) H3.out).mono ?_
  rintro e w4 ⟨hb4, b4, c4, rfl, hP4⟩
  go_wp2_with fail
  have z4 := hb4.size
  have hW : ∀ (o1 o2 : Obj), Below w4.heap.size w4 ((w4.alloc o1).alloc o2) := fun o1 o2 => ((Below.refl _ _).alloc (Nat.le_refl _) _).alloc (by simp) _
  have k24 := k2.trans (hb4.mono (by omega))
  have k14 := k1.trans (hb4.mono (by omega))
  have hcells := two_new (w := w4) (x := .slice b4 r.length c4) (y := .int .i64 x) (z := .int .i64 y) (t := 24) (u := 27) (Below.refl _ _)
  have k25 := k24.trans ((hW (.cells #[.slice b4 r.length c4] 24) (.cells #[.int .i64 x, .int .i64 y] 27)).mono (by omega))
  have k15 := k14.trans ((hW (.cells #[.slice b4 r.length c4] 24) (.cells #[.int .i64 x, .int .i64 y] 27)).mono (by omega))
  have hP45 := hP4.keep (Below.keepX (hW (.cells #[.slice b4 r.length c4] 24) (.cells #[.int .i64 x, .int .i64 y] 27)))
  have L1 : ((w4.alloc (.cells #[.slice b4 r.length c4] 24)).alloc (.cells #[.int .i64 x, .int .i64 y] 27)).cell? ⟨w1.heap.size, 0, none⟩ = some (.slice b1 p.length c1) := by
    rw [(hW _ _).cell (p := ⟨w1.heap.size, 0, none⟩) (by simp only; omega), hb4.cell (p := ⟨w1.heap.size, 0, none⟩) (by simp only; omega)]; exact l1
  have L2 : ((w4.alloc (.cells #[.slice b4 r.length c4] 24)).alloc (.cells #[.int .i64 x, .int .i64 y] 27)).cell? ⟨w2.heap.size, 0, none⟩ = some (.slice b2 q.length c2) := by
    rw [(hW _ _).cell (p := ⟨w2.heap.size, 0, none⟩) (by simp only; omega), hb4.cell (p := ⟨w2.heap.size, 0, none⟩) (by simp only; omega)]; exact l2
  have hz5 : ((w4.alloc (.cells #[.slice b4 r.length c4] 24)).alloc (.cells #[.int .i64 x, .int .i64 y] 27)).heap.size = w4.heap.size + 2 := by simp only [World.size_alloc]
  generalize hW5 : ((w4.alloc (.cells #[.slice b4 r.length c4] 24)).alloc (.cells #[.int .i64 x, .int .i64 y] 27)) = w5 at *
  obtain ⟨B4, L4, X4, _, _⟩ := hcells
  have hP15 := hP1.keep (Below.keepX k15)
  have hP25 := hP2.keep (Below.keepX k25)
  have hb5 : Below w.heap.size w w5 := hb1.trans (k15.mono hb1.size)
  obtain ⟨cs1, sl1, fn1⟩ := id hP15
  obtain ⟨cs2, sl2, fn2⟩ := id hP25
  have n1 := fn1.cells
  have n2 := fn2.cells
  have hq1 : w1.heap.size < w5.heap.size := by omega
  have hq2 : w2.heap.size < w5.heap.size := by omega
  have SL1 : Hid (∀ W : World, Below w5.heap.size w5 W → SlAt W NoX (.slice b1 p.length c1) p.length cs1) := fun W h => sl1.keep (Below.keepX h)
  have SL2 : Hid (∀ W : World, Below w5.heap.size w5 W → SlAt W NoX (.slice b2 q.length c2) q.length cs2) := fun W h => sl2.keep (Below.keepX h)
  have KS : Hid (∀ W : World, Below w5.heap.size w5 W → W.cell? ⟨w1.heap.size, 0, none⟩ = some (.slice b1 p.length c1) ∧ W.cell? ⟨w2.heap.size, 0, none⟩ = some (.slice b2 q.length c2)) := fun W h => ⟨(h.cell (p := ⟨w1.heap.size, 0, none⟩) hq1).trans L1, (h.cell (p := ⟨w2.heap.size, 0, none⟩) hq2).trans L2⟩
  have U1 : Hid (Below w5.heap.size w5 (w5.alloc (.cells #[] 43)).drew) := ((Below.refl _ _).alloc (Nat.le_refl _) _).drew
  have U2 : Hid (Below w5.heap.size w5 ((w5.alloc (.cells #[] 43)).alloc zero1).drew) := (((Below.refl _ _).alloc (Nat.le_refl _) _).alloc (by simp) _).drew
  have U3 : Hid (Below w5.heap.size w5 ((w5.alloc zero1).alloc (.cells #[] 43)).drew) := (((Below.refl _ _).alloc (Nat.le_refl _) _).alloc (by simp) _).drew
  have U4 : Hid (Below w5.heap.size w5 (w5.alloc zero1).drew) := ((Below.refl _ _).alloc (Nat.le_refl _) _).drew
  have O1 : Hid ((w5.alloc (.cells #[] 43)).drew.ownsRow w5.heap.size 43 3 (.slice (some ⟨w5.heap.size, 0, none⟩) 0 0) 0 []) := World.ownsRow_made w5 #[] 0 (Nat.le_refl _) (by unfold maxLen; omega) (by simp)
  have O2 : Hid (((w5.alloc (.cells #[] 43)).alloc zero1).drew.ownsRow w5.heap.size 43 3 (.slice (some ⟨w5.heap.size, 0, none⟩) 0 0) 0 []) := (World.ownsRow_made w5 #[] 0 (Nat.le_refl _) (by unfold maxLen; omega) (by simp)).alloc _
  have O3 : Hid (((w5.alloc zero1).alloc (.cells #[] 43)).drew.ownsRow w5.heap.size 43 3 (.slice (some ⟨w5.heap.size + 1, 0, none⟩) 0 0) 0 []) := by
    have := World.ownsRow_made (base := w5.heap.size) (e := 43) (size := 3) (w5.alloc zero1) #[] 0 (by simp) (by unfold maxLen; omega) (by simp)
    simp only [World.size_alloc] at this
    exact this
  have Z2 : Hid (((w5.alloc (.cells #[] 43)).alloc zero1).drew.heap[w5.heap.size + 1]? = some zero1) := by
    have := heap_alloc_new (w5.alloc (.cells #[] 43)) zero1
    simp only [World.size_alloc] at this; exact this
  have Z3 : Hid (((w5.alloc zero1).alloc (.cells #[] 43)).drew.heap[w5.heap.size]? = some zero1) := (Below.heap_alloc _ _ _ (by simp)).trans (heap_alloc_new w5 zero1)
  have hq4 : w4.heap.size + 1 < w5.heap.size := by omega
  have hq5 : w4.heap.size < w5.heap.size := by omega
  clear hz5 hW5 k24 k14 k25 k15 hW z4 hb4 hb3 hb2 hP1 hP2 hP4 sl1 sl2 l1 l2
  go_region_held_law (fun W => W.cell? ⟨w1.heap.size, 0, none⟩ = some (.slice b1 p.length c1) ∧ W.cell? ⟨w2.heap.size, 0, none⟩ = some (.slice b2 q.length c2))
    (first
      | exact KS.out _ (Below.refl _ _).drew
      | exact KS.out _ U1.out
      | exact KS.out _ U2.out
      | exact KS.out _ U3.out
      | exact KS.out _ U4.out
      | exact KS.out _ B7
      | exact KS.out _ (B7.alloc B7.size _)
      | exact KS.out _ (B7.setCell B6.size _)
      | exact KS.out _ (B7.setCell (Nat.le_refl _) _)
      | exact KS.out _ (B7.setCell (Nat.le_succ _) _)
      | exact KS.out _ B6
      | exact KS.out _ (B6.alloc B6.size _)
      | go_keep)
    (first
      | (refine step_append_fns0 (by rfl) _ _ (by rfl) w5.heap.size _ (by simp only [Act.eval]; simp; done) O1.out _ _ _ (by rfl) (SL1.out _ U1.out) n1.1 n1.2 (by omega) U1.out.size ?_; intro a6 cap6 w6 hown6 hg6; have B6 : Below w5.heap.size w5 w6 := U1.out.grown hg6 U1.out.size (fun k hk => by simp [Value.ownBlock] at hk; omega); have G6 := hid hg6; clear hg6)
      | (refine step_append_fns0 (by rfl) _ _ (by rfl) w5.heap.size _ (by simp only [Act.eval]; simp; done) O2.out _ _ _ (by rfl) (SL1.out _ U2.out) n1.1 n1.2 (by omega) U2.out.size ?_; intro a6 cap6 w6 hown6 hg6; have B6 : Below w5.heap.size w5 w6 := U2.out.grown hg6 U2.out.size (fun k hk => by simp [Value.ownBlock] at hk; omega); have bg6 : w6.heap[w5.heap.size + 1]? = some zero1 := (hg6.block _ (by simp) (by simp [Value.ownBlock])).trans Z2.out; have G6 := hid hg6; clear hg6)
      | (refine step_append_fns0 (by rfl) _ _ (by rfl) w5.heap.size _ (by simp only [Act.eval]; simp; done) O3.out _ _ _ (by rfl) (SL1.out _ U3.out) n1.1 n1.2 (by omega) U3.out.size ?_; intro a6 cap6 w6 hown6 hg6; have B6 : Below w5.heap.size w5 w6 := U3.out.grown hg6 U3.out.size (fun k hk => by simp [Value.ownBlock] at hk; omega); have bg6 : w6.heap[w5.heap.size]? = some zero1 := (hg6.block _ (by simp; omega) (by simp [Value.ownBlock])).trans Z3.out; have G6 := hid hg6; clear hg6)
      | (refine step_append_fns (by rfl) _ _ (by rfl) w5.heap.size _ _ _ (by rfl) (hown6) _ _ _ (by rfl) (SL2.out _ (B6)) n2.1 n2.2 (by omega) (B6).size ?_; intro a7 cap7 w7 hown7 hg7; have B7 : Below w5.heap.size w5 w7 := (B6).grown hg7 (B6).size (fun k hk => (hown6.lt k hk).1); have bg7 := (hg7.block _ (Array.getElem?_eq_some_iff.1 bg6).1 (Ne.symm (own_ne hown6 bg6))).trans bg6; have cz7 := cell0 bg7; have fz7 := Lib.frozen_of_heap bg7 0; have lt7 := (Array.getElem?_eq_some_iff.1 bg7).1; have G7 := hid hg7; clear hg7)
      | (refine step_append_fns (by rfl) _ _ (by rfl) w5.heap.size _ _ _ (by rfl) (hown6) _ _ _ (by rfl) (SL2.out _ (B6)) n2.1 n2.2 (by omega) (B6).size ?_; intro a7 cap7 w7 hown7 hg7; have B7 : Below w5.heap.size w5 w7 := (B6).grown hg7 (B6).size (fun k hk => (hown6.lt k hk).1); have G7 := hid hg7; clear hg7)
      | (refine step_append_fns (by rfl) _ _ (by rfl) w5.heap.size _ _ _ (by rfl) (hown6.alloc _) _ _ _ (by rfl) (SL2.out _ (B6.alloc B6.size _)) n2.1 n2.2 (by omega) (B6.alloc B6.size _).size ?_; intro a7 cap7 w7 hown7 hg7; have B7 : Below w5.heap.size w5 w7 := (B6.alloc B6.size _).grown hg7 (B6.alloc B6.size _).size (fun k hk => (hown6.lt k hk).1); have bg7 : w7.heap[w6.heap.size]? = some zero1 := (hg7.block _ (by simp) (fun e => by have := (hown6.lt w6.heap.size e.symm).2; omega)).trans (heap_alloc_new w6 _); have cz7 := cell0 bg7; have fz7 := Lib.frozen_of_heap bg7 0; have lt7 := (Array.getElem?_eq_some_iff.1 bg7).1; have G7 := hid hg7; clear hg7))
  · have B8 : Below w5.heap.size w5 (w7.alloc (.cells #[(.slice a7 (p.length + q.length) cap7)] 24)) := B7.alloc B7.size _
    have N8 : (w7.alloc (.cells #[(.slice a7 (p.length + q.length) cap7)] 24)).heap[w7.heap.size]? = some (.cells #[(.slice a7 (p.length + q.length) cap7)] 24 (0, 0)) := heap_alloc_new w7 _
    have O8 := hown7.alloc (.cells #[.slice a7 (p.length + q.length) cap7] 24)
    generalize (w7.alloc (.cells #[(.slice a7 (p.length + q.length) cap7)] 24)) = w8 at *
    have C8 := cell0 N8
    have Q8 := prog_new B8 fn1 fn2 O8 (by omega)
    have X8 := (B8.cell (p := ⟨w4.heap.size + 1, 0, none⟩) hq4).trans X4
    have L8 := (B8.cell (p := ⟨w4.heap.size, 0, none⟩) hq5).trans L4
    have P8 := hP45.keep (Below.keepX B8)
    have l1 : w4.heap.size < w8.heap.size := Nat.lt_of_lt_of_le hq5 B8.size
    have l2 : w4.heap.size + 1 < w8.heap.size := Nat.lt_of_lt_of_le hq4 B8.size
    have l3 : w7.heap.size < w8.heap.size := (Array.getElem?_eq_some_iff.1 N8).1
    clear KS U1 U2 U3 U4 O1 O2 O3 Z2 Z3 SL1 SL2 hP15 hP25 n1 n2 hown6 hown7 G6 G7 O8
    have hbe := hb5.trans (B8.mono hb5.size)
    rcases hc with rfl | ⟨rfl, HR⟩
    · go_wp2_with fail
      go_ret
      exact ⟨rfl, hbe⟩
    · rw [← HR.out] at Q8
      go_wp2_with fail
      refine (rsame_eq w8 (.slice b4 r.length c4) (.slice a7 (p.length + q.length) cap7) r P8 Q8).mono ?_
      rintro e w9 ⟨rfl, hb9⟩
      go_wp2_with fail
      go_ret
      exact ⟨rfl, hbe.trans (hb9.mono hbe.size)⟩
  · have B8 : Below w5.heap.size w5 (w7.setCell ⟨w6.heap.size, 0, none⟩ (.slice a7 (p.length + q.length) cap7)) := B7.setCell (p := ⟨w6.heap.size, 0, none⟩) (B6.size) _
    have N8 : (w7.setCell ⟨w6.heap.size, 0, none⟩ (.slice a7 (p.length + q.length) cap7)).heap[w6.heap.size]? = some (.cells #[(.slice a7 (p.length + q.length) cap7)] 24 (0, 0)) := heap_setCell_same _ _ _ _ _ _ bg7
    have O8 := own_set hown7 bg7 (.slice a7 (p.length + q.length) cap7)
    generalize (w7.setCell ⟨w6.heap.size, 0, none⟩ (.slice a7 (p.length + q.length) cap7)) = w8 at *
    have C8 := cell0 N8
    have Q8 := prog_new B8 fn1 fn2 O8 (by omega)
    have X8 := (B8.cell (p := ⟨w4.heap.size + 1, 0, none⟩) hq4).trans X4
    have L8 := (B8.cell (p := ⟨w4.heap.size, 0, none⟩) hq5).trans L4
    have P8 := hP45.keep (Below.keepX B8)
    have l1 : w4.heap.size < w8.heap.size := Nat.lt_of_lt_of_le hq5 B8.size
    have l2 : w4.heap.size + 1 < w8.heap.size := Nat.lt_of_lt_of_le hq4 B8.size
    have l3 : w6.heap.size < w8.heap.size := (Array.getElem?_eq_some_iff.1 N8).1
    clear KS U1 U2 U3 U4 O1 O2 O3 Z2 Z3 SL1 SL2 hP15 hP25 n1 n2 hown6 hown7 G6 G7 O8
    have hbe := hb5.trans (B8.mono hb5.size)
    rcases hc with rfl | ⟨rfl, HR⟩
    · go_wp2_with fail
      go_ret
      exact ⟨rfl, hbe⟩
    · rw [← HR.out] at Q8
      go_wp2_with fail
      refine (rsame_eq w8 (.slice b4 r.length c4) (.slice a7 (p.length + q.length) cap7) r P8 Q8).mono ?_
      rintro e w9 ⟨rfl, hb9⟩
      go_wp2_with fail
      go_ret
      exact ⟨rfl, hbe.trans (hb9.mono hbe.size)⟩
  · have B8 : Below w5.heap.size w5 (w7.setCell ⟨w5.heap.size + 1, 0, none⟩ (.slice a7 (p.length + q.length) cap7)) := B7.setCell (p := ⟨w5.heap.size + 1, 0, none⟩) (Nat.le_succ _) _
    have N8 : (w7.setCell ⟨w5.heap.size + 1, 0, none⟩ (.slice a7 (p.length + q.length) cap7)).heap[w5.heap.size + 1]? = some (.cells #[(.slice a7 (p.length + q.length) cap7)] 24 (0, 0)) := heap_setCell_same _ _ _ _ _ _ bg7
    have O8 := own_set hown7 bg7 (.slice a7 (p.length + q.length) cap7)
    generalize (w7.setCell ⟨w5.heap.size + 1, 0, none⟩ (.slice a7 (p.length + q.length) cap7)) = w8 at *
    have C8 := cell0 N8
    have Q8 := prog_new B8 fn1 fn2 O8 (by omega)
    have X8 := (B8.cell (p := ⟨w4.heap.size + 1, 0, none⟩) hq4).trans X4
    have L8 := (B8.cell (p := ⟨w4.heap.size, 0, none⟩) hq5).trans L4
    have P8 := hP45.keep (Below.keepX B8)
    have l1 : w4.heap.size < w8.heap.size := Nat.lt_of_lt_of_le hq5 B8.size
    have l2 : w4.heap.size + 1 < w8.heap.size := Nat.lt_of_lt_of_le hq4 B8.size
    have l3 : w5.heap.size + 1 < w8.heap.size := (Array.getElem?_eq_some_iff.1 N8).1
    clear KS U1 U2 U3 U4 O1 O2 O3 Z2 Z3 SL1 SL2 hP15 hP25 n1 n2 hown6 hown7 G6 G7 O8
    have hbe := hb5.trans (B8.mono hb5.size)
    rcases hc with rfl | ⟨rfl, HR⟩
    · go_wp2_with fail
      go_ret
      exact ⟨rfl, hbe⟩
    · rw [← HR.out] at Q8
      go_wp2_with fail
      refine (rsame_eq w8 (.slice b4 r.length c4) (.slice a7 (p.length + q.length) cap7) r P8 Q8).mono ?_
      rintro e w9 ⟨rfl, hb9⟩
      go_wp2_with fail
      go_ret
      exact ⟨rfl, hbe.trans (hb9.mono hbe.size)⟩
  · have B8 : Below w5.heap.size w5 (w7.setCell ⟨w5.heap.size, 0, none⟩ (.slice a7 (p.length + q.length) cap7)) := B7.setCell (p := ⟨w5.heap.size, 0, none⟩) (Nat.le_refl _) _
    have N8 : (w7.setCell ⟨w5.heap.size, 0, none⟩ (.slice a7 (p.length + q.length) cap7)).heap[w5.heap.size]? = some (.cells #[(.slice a7 (p.length + q.length) cap7)] 24 (0, 0)) := heap_setCell_same _ _ _ _ _ _ bg7
    have O8 := own_set hown7 bg7 (.slice a7 (p.length + q.length) cap7)
    generalize (w7.setCell ⟨w5.heap.size, 0, none⟩ (.slice a7 (p.length + q.length) cap7)) = w8 at *
    have C8 := cell0 N8
    have Q8 := prog_new B8 fn1 fn2 O8 (by omega)
    have X8 := (B8.cell (p := ⟨w4.heap.size + 1, 0, none⟩) hq4).trans X4
    have L8 := (B8.cell (p := ⟨w4.heap.size, 0, none⟩) hq5).trans L4
    have P8 := hP45.keep (Below.keepX B8)
    have l1 : w4.heap.size < w8.heap.size := Nat.lt_of_lt_of_le hq5 B8.size
    have l2 : w4.heap.size + 1 < w8.heap.size := Nat.lt_of_lt_of_le hq4 B8.size
    have l3 : w5.heap.size < w8.heap.size := (Array.getElem?_eq_some_iff.1 N8).1
    clear KS U1 U2 U3 U4 O1 O2 O3 Z2 Z3 SL1 SL2 hP15 hP25 n1 n2 hown6 hown7 G6 G7 O8
    have hbe := hb5.trans (B8.mono hb5.size)
    rcases hc with rfl | ⟨rfl, HR⟩
    · go_wp2_with fail
      go_ret
      exact ⟨rfl, hbe⟩
    · rw [← HR.out] at Q8
      go_wp2_with fail
      refine (rsame_eq w8 (.slice b4 r.length c4) (.slice a7 (p.length + q.length) cap7) r P8 Q8).mono ?_
      rintro e w9 ⟨rfl, hb9⟩
      go_wp2_with fail
      go_ret
      exact ⟨rfl, hbe.trans (hb9.mono hbe.size)⟩

theorem walk (a0 a1 : ByteArray) (h0 : a0.size ≤ maxLen) (h1 : a1.size ≤ maxLen) (w : World) :
    Calls Tryd.prog 4 #[.string a0, .string a1] w fun e w' => e = .returned (.bool true) ∧ Below w.heap.size w w' := by
  cases e1 : M.parse a0.data.toList with
  | error f =>
    have hn := M.parse_nz _ f e1
    obtain ⟨q, ⟨x2, y2⟩, h2⟩ : ∃ q f, M.parseR a1.data.toList = (q, f) := ⟨_, _, rfl⟩
    obtain ⟨x1, y1⟩ := f
    exact walk_not a0 a1 w h0 h1 _ _ _ _ _ _ (M.parseR_err e1) h2 (.inl hn)
  | ok p =>
    cases e2 : M.parse a1.data.toList with
    | error f =>
      have hn := M.parse_nz _ f e2
      obtain ⟨x1, y1⟩ := f
      exact walk_not a0 a1 w h0 h1 _ _ _ _ _ _ (M.parseR_ok e1) (M.parseR_err e2) (.inr (.inl ⟨rfl, hn⟩))
    | ok q =>
      by_cases c0 : a0.size ≤ 5000
      · by_cases c1 : a1.size ≤ 5000
        · rcases M.parse_parts (by rw [len_list, len_list]; omega) e1 e2 with h | ⟨x, h⟩
          · exact walk_yes a0 a1 w c0 c1 p q _ _ _ (M.parse_few e1) (M.parse_few e2) (M.parseR_ok e1) (M.parseR_ok e2) (M.parseR_ok h) (.inr ⟨rfl, rfl⟩)
          · exact walk_yes a0 a1 w c0 c1 p q _ _ _ (M.parse_few e1) (M.parse_few e2) (M.parseR_ok e1) (M.parseR_ok e2) (M.parseR_err h) (.inl rfl)
        · exact walk_not a0 a1 w h0 h1 _ _ _ _ _ _ (M.parseR_ok e1) (M.parseR_ok e2) (.inr (.inr (.inr ⟨rfl, rfl, c0, by omega⟩)))
      · exact walk_not a0 a1 w h0 h1 _ _ _ _ _ _ (M.parseR_ok e1) (M.parseR_ok e2) (.inr (.inr (.inl ⟨rfl, rfl, by omega⟩)))
end ParseParts
end Go.Proofs.YtbgkaiajodjpnaaDoor
