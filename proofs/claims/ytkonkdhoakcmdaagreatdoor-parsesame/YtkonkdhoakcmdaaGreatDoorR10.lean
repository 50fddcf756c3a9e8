/-
  The walk of a reader's value: what a variable is set to. No conditions.
-/
import Derived.Test.YtkonkdhoakcmdaaGreatDoorR9
set_option linter.unusedVariables false
namespace Go.Proofs.YtkonkdhoakcmdaaGreatDoor
open Go.RowKit

theorem kept8 {w w1 : World} {r : Nat} (h : Only r (w.alloc zero8) w1) (hr : r < w.heap.size) : w1.heap[w.heap.size]? = some (.cells #[.int .i64 0, .string ⟨#[]⟩, .string ⟨#[]⟩, .string ⟨#[]⟩, .slice none 0 0, .slice none 0 0, .slice none 0 0, .slice none 0 0] 59 (0, 0)) :=
  (h.block w.heap.size (by simp) (by omega)).trans (heap_alloc_new w _)
theorem kept_new {w w1 : World} {r : Nat} {o : Obj} (h : Only r (w.alloc o) w1) (hr : r < w.heap.size) : w1.heap[w.heap.size]? = some o :=
  (h.block w.heap.size (by simp) (by omega)).trans (heap_alloc_new w o)
theorem cells3 {w : World} {g : Nat} {T : TypeId} {v0 v1 v2 : Value} (h : w.heap[g]? = some (.cells #[v0, v1, v2] T (0, 0))) :
    w.cell? ⟨g, 0, none⟩ = some v0 ∧ w.cell? ⟨g, 1, none⟩ = some v1 ∧ w.cell? ⟨g, 2, none⟩ = some v2 ∧ (∀ i, w.frozen? ⟨g, i, none⟩ = false) ∧ g < w.heap.size := by
  refine ⟨?_, ?_, ?_, fun i => Lib.frozen_of_heap h i, (Array.getElem?_eq_some_iff.1 h).1⟩
  all_goals (rw [Lib.cell_of_heap h]; rfl)
theorem put8_size (W : World) (g : Nat) (c0 c1 c2 c3 c4 c5 c6 c7 : Value) : (put8 W g c0 c1 c2 c3 c4 c5 c6 c7).heap.size = W.heap.size := by simp [put8, World.setCell]
theorem slAt_newAt (w : World) (X : Nat → Prop) (T : TypeId) (k n cap : Nat) (cs : List Value) (arr : Array Value) (hk : w.heap.size = k) (hr : ¬ X k) (hn : n ≤ 4398046511104) (ha : arr = cs.toArray) :
    SlAt (w.alloc (.cells arr T)) X (.slice (some ⟨k, 0, none⟩) n cap) n cs := by
  subst hk; exact slAt_new w X T n cap cs arr hr hn ha
/-- what is new behind W is new behind w -/
theorem OpsAt.fresh {w W w3 w4 : World} {v : Value} {l : List M.Opd} (h : OpsAt w3 (Old W) v l) (hk : Keep (Old W) w3 w4) (hz : w.heap.size ≤ W.heap.size) : OpsAt w4 (Old w) v l :=
  (SlAt.keep h hk).weak fun b _ hx hy => hx (Nat.lt_of_lt_of_le hy hz)
theorem StrsAt.fresh {w W w3 w4 : World} {v : Value} {l : List ByteArray} (h : StrsAt w3 (Old W) v l) (hk : Keep (Old W) w3 w4) (hz : w.heap.size ≤ W.heap.size) : StrsAt w4 (Old w) v l :=
  (SlAt.keep h hk).weak fun b _ hx hy => hx (Nat.lt_of_lt_of_le hy hz)

set_option maxRecDepth 8000 in
set_option maxHeartbeats 1600000 in
theorem value_in (r : Nat) (S : M.St) (w : World) (h : Rd w r S) (h1 : S.at M.kIn = true) :
    Calls Tryz.prog 83 #[.pointer (some ⟨r, 0, none⟩)] w (Ends r w (valEnc w) (M.value S)) := by
  have hlt := h.lt
  have ha := h.alloc zero8
  have o0 : Only r w (w.alloc zero8) := (Only.refl r w).alloc _
  have HR : Hid (M.value S = .ok (S.adv, ⟨7, M.em, M.em, [], []⟩)) := by unfold Hid; simp [M.value, h1]
  go_enter Tryz.func83, Tryz.ntmps83
  go_wp2_with fail
  refine (passIf_yes r S M.kIn _ ha h1 (by decide)).mono ?_
  rintro e w1 ⟨rfl, r1, o1⟩
  have hg := kept8 o1 hlt
  obtain ⟨q0, q1, q2, q3, q4, q5, q6, q7, qf, qz⟩ := cells8 hg
  go_wp2_with fail
  exact ret8 (enc := valEnc w) (res := M.value S) (S' := S.adv) (a := (⟨7, M.em, M.em, [], []⟩ : M.Val)) (res_value (by rfl) (put8_at hg _ _ _ _ _ _ _ _)) HR.out (put8_only (o0.trans o1) (Nat.le_refl _) _ _ _ _ _ _ _ _) (put8_rd r1 hlt _ _ _ _ _ _ _ _) ⟨_, _, rfl, OpsAt.nil _ _, StrsAt.nil _ _⟩

set_option maxRecDepth 8000 in
set_option maxHeartbeats 1600000 in
theorem value_call (r : Nat) (S : M.St) (w : World) (h : Rd w r S) (h1 : S.at M.kIn = false) (h2 : S.at M.kCall = true) :
    Calls Tryz.prog 83 #[.pointer (some ⟨r, 0, none⟩)] w (Ends r w (valEnc w) (M.value S)) := by
  have hlt := h.lt
  have ha := h.alloc zero8
  have o0 : Only r w (w.alloc zero8) := (Only.refl r w).alloc _
  have HR : Hid (M.value S = M.bnd (M.name S.adv) fun S1 n => M.bnd (M.operands S1) fun S2 l => .ok (S2, ⟨5, M.em, n, l, []⟩)) := by unfold Hid; simp [M.value, h1, h2]
  go_enter Tryz.func83, Tryz.ntmps83
  go_wp2_with fail
  refine (passIf_no r S M.kIn _ ha h1).mono ?_
  rintro e w' ⟨rfl, rfl⟩
  go_wp2_with fail
  refine (passIf_yes r S M.kCall _ ha h2 (by decide)).mono ?_
  rintro e w1 ⟨rfl, r1, o1⟩
  go_wp2_with fail
  refine (name_any r S.adv _ r1).mono ?_
  rintro e w2 ⟨o2, hok, herr⟩
  cases hnm : M.name S.adv with
  | error f =>
    obtain rfl := herr f hnm
    exact ⟨rfl, Ends.err (by rw [HR.out, hnm]; rfl) (o0.trans (o1.trans o2))⟩
  | ok p =>
    obtain ⟨S2, nm⟩ := p
    obtain ⟨v2, rfl, r2, hv2⟩ := hok S2 nm hnm
    obtain rfl : v2 = .string nm := hv2
    clear hok herr
    have o12 := o1.trans o2
    have hz2 := o12.size
    rw [World.size_alloc] at hz2
    have ra := r2.alloc (.cells #[.int .i64 5, .string ⟨#[]⟩, .string ⟨#[]⟩, .string nm, .slice none 0 0, .slice none 0 0, .slice none 0 0, .slice none 0 0] 59)
    go_wp2_with fail
    refine (operands_any r S2 _ ra).mono ?_
    rintro e w3 ⟨o3, hok, herr⟩
    have o3' := ((Only.refl r w2).alloc _).trans o3
    cases hop : M.operands S2 with
    | error f =>
      obtain rfl := herr f hop
      exact ⟨rfl, Ends.err (by rw [HR.out, hnm]; simp only [M.bnd, hop]) (o0.trans (o12.trans o3'))⟩
    | ok p =>
      obtain ⟨S3, l⟩ := p
      obtain ⟨v3, rfl, r3, hv3⟩ := hok S3 l hop
      have hv3' : OpsAt w3 (Old (w2.alloc (.cells #[.int .i64 5, .string ⟨#[]⟩, .string ⟨#[]⟩, .string nm, .slice none 0 0, .slice none 0 0, .slice none 0 0, .slice none 0 0] 59))) v3 l := hv3
      obtain ⟨av, cv, rfl⟩ := SlAt.form hv3'
      have hL := kept_new o3 r2.lt
      have hg := kept8 (o12.trans o3') hlt
      obtain ⟨k0, k1, k2, k3, k4, k5, k6, k7, kf, kz⟩ := cells8 hL
      obtain ⟨q0, q1, q2, q3, q4, q5, q6, q7, qf, qz⟩ := cells8 hg
      have hgL : ¬ w.heap.size = w2.heap.size := by omega
      have hLg : ¬ w2.heap.size = w.heap.size := by omega
      clear hok herr
      go_wp2_with fail
      have hg' : (w3.setCell ⟨w2.heap.size, 4, none⟩ (.slice av l.length cv)).heap[w.heap.size]? = _ := (Below.heap_setCell _ _ _ _ hgL).trans hg
      have hO : Only r w (w3.setCell ⟨w2.heap.size, 4, none⟩ (.slice av l.length cv)) := (o0.trans (o12.trans o3')).setCell (.inr (by show w.heap.size ≤ w2.heap.size; omega)) _
      refine ret8 (enc := valEnc w) (res := M.value S) (S' := S3) (a := (⟨5, M.em, nm, l, []⟩ : M.Val)) (res_value (by rfl) (put8_at hg' _ _ _ _ _ _ _ _)) (by rw [HR.out, hnm]; simp only [M.bnd, hop]) (put8_only hO (Nat.le_refl _) _ _ _ _ _ _ _ _) (put8_rd (r3.setCell (by show r < w2.heap.size; exact r2.lt) _) hlt _ _ _ _ _ _ _ _) ⟨_, _, rfl, hv3'.fresh ((keep_set (by show w2.heap.size < _; simp) _).trans (put8_keep (by show w.heap.size < _; rw [World.size_alloc]; omega) _ _ _ _ _ _ _ _)) (by rw [World.size_alloc]; omega), StrsAt.nil _ _⟩

set_option maxRecDepth 8000 in
set_option maxHeartbeats 1600000 in
theorem value_new (r : Nat) (S : M.St) (w : World) (h : Rd w r S) (h1 : S.at M.kIn = false) (h2 : S.at M.kCall = false) (h3 : S.at M.kNew = true) :
    Calls Tryz.prog 83 #[.pointer (some ⟨r, 0, none⟩)] w (Ends r w (valEnc w) (M.value S)) := by
  have hlt := h.lt
  have ha := h.alloc zero8
  have o0 : Only r w (w.alloc zero8) := (Only.refl r w).alloc _
  have HR : Hid (M.value S = M.object S.adv) := by unfold Hid; simp [M.value, h1, h2, h3]
  go_enter Tryz.func83, Tryz.ntmps83
  go_wp2_with fail
  refine (passIf_no r S M.kIn _ ha h1).mono ?_
  rintro e w' ⟨rfl, rfl⟩
  go_wp2_with fail
  refine (passIf_no r S M.kCall _ ha h2).mono ?_
  rintro e w' ⟨rfl, rfl⟩
  go_wp2_with fail
  refine (passIf_yes r S M.kNew _ ha h3 (by decide)).mono ?_
  rintro e w1 ⟨rfl, r1, o1⟩
  go_wp2_with fail
  refine (object_any r S.adv _ r1).mono ?_
  rintro e w2 ⟨o2, hok, herr⟩
  cases hnm : M.object S.adv with
  | error f =>
    obtain rfl := herr f hnm
    exact ⟨rfl, Ends.err (by rw [HR.out, hnm]) (o0.trans (o1.trans o2))⟩
  | ok p =>
    obtain ⟨S2, x⟩ := p
    obtain ⟨v2, rfl, r2, va, vp, rfl, hA, hP⟩ := hok S2 x hnm
    obtain ⟨aa, ca, rfl⟩ := SlAt.form hA
    obtain ⟨ap, cp, rfl⟩ := SlAt.form hP
    have o12 := o1.trans o2
    have hz1 := o1.size
    rw [World.size_alloc] at hz1
    have hg := kept8 o12 hlt
    obtain ⟨q0, q1, q2, q3, q4, q5, q6, q7, qf, qz⟩ := cells8 hg
    clear hok herr
    go_wp2_with fail
    exact ret8 (enc := valEnc w) (res := M.value S) (S' := S2) (a := x) (res_value (by rfl) (put8_at hg _ _ _ _ _ _ _ _)) (by rw [HR.out, hnm]) (put8_only (o0.trans o12) (Nat.le_refl _) _ _ _ _ _ _ _ _) (put8_rd r2 hlt _ _ _ _ _ _ _ _) ⟨_, _, rfl, hA.fresh (put8_keep (by show w.heap.size < _; omega) _ _ _ _ _ _ _ _) (by omega), hP.fresh (put8_keep (by show w.heap.size < _; omega) _ _ _ _ _ _ _ _) (by omega)⟩

set_option maxRecDepth 8000 in
set_option maxHeartbeats 1600000 in
theorem value_bad (r : Nat) (S : M.St) (w : World) (h : Rd w r S) (h1 : S.at M.kIn = false) (h2 : S.at M.kCall = false) (h3 : S.at M.kNew = false) (f : M.Flt) (hop : M.operand S = .error f) :
    Calls Tryz.prog 83 #[.pointer (some ⟨r, 0, none⟩)] w (Ends r w (valEnc w) (M.value S)) := by
  have hlt := h.lt
  have ha := h.alloc zero8
  have o0 : Only r w (w.alloc zero8) := (Only.refl r w).alloc _
  go_enter Tryz.func83, Tryz.ntmps83
  go_wp2_with fail
  refine (passIf_no r S M.kIn _ ha h1).mono ?_
  rintro e w' ⟨rfl, rfl⟩
  go_wp2_with fail
  refine (passIf_no r S M.kCall _ ha h2).mono ?_
  rintro e w' ⟨rfl, rfl⟩
  go_wp2_with fail
  refine (passIf_no r S M.kNew _ ha h3).mono ?_
  rintro e w' ⟨rfl, rfl⟩
  go_wp2_with fail
  refine (operand_any r S _ ha).mono ?_
  rintro e w1 ⟨o1, hok, herr⟩
  obtain rfl := herr f hop
  exact ⟨rfl, Ends.err (by simp [M.value, h1, h2, h3, hop]; rfl) (o0.trans o1)⟩

set_option maxRecDepth 8000 in
set_option maxHeartbeats 1600000 in
theorem value_get (r : Nat) (S : M.St) (w : World) (h : Rd w r S) (h1 : S.at M.kIn = false) (h2 : S.at M.kCall = false) (h3 : S.at M.kNew = false) (S1 : M.St) (an : Int) (nm4 : ByteArray) (hop : M.operand S = .ok (S1, ⟨4, an, nm4⟩)) (hd : S1.at (M.ch 46) = true) :
    Calls Tryz.prog 83 #[.pointer (some ⟨r, 0, none⟩)] w (Ends r w (valEnc w) (M.value S)) := by
  have hlt := h.lt
  have ha := h.alloc zero8
  have o0 : Only r w (w.alloc zero8) := (Only.refl r w).alloc _
  have HR : Hid (M.value S = M.bnd (M.name S1.adv) fun S2 n => .ok (S2, ⟨2, nm4, n, [], []⟩)) := by unfold Hid; simp [M.value, h1, h2, h3, hop, M.bnd, M.value2, hd]
  go_enter Tryz.func83, Tryz.ntmps83
  go_wp2_with fail
  refine (passIf_no r S M.kIn _ ha h1).mono ?_
  rintro e w' ⟨rfl, rfl⟩
  go_wp2_with fail
  refine (passIf_no r S M.kCall _ ha h2).mono ?_
  rintro e w' ⟨rfl, rfl⟩
  go_wp2_with fail
  refine (passIf_no r S M.kNew _ ha h3).mono ?_
  rintro e w' ⟨rfl, rfl⟩
  go_wp2_with fail
  refine (operand_any r S _ ha).mono ?_
  rintro e w1 ⟨o1, hok, herr⟩
  obtain ⟨v1, rfl, r1, hv1⟩ := hok S1 _ hop
  obtain rfl : v1 = .agg #[.int .i64 4, .int .i64 an, .string nm4] := hv1
  have hz1 := o1.size
  rw [World.size_alloc] at hz1
  have rA := r1.alloc (.cells #[.int .i64 4, .int .i64 an, .string nm4] 61)
  have oA : Only r (w.alloc zero8) (w1.alloc (.cells #[.int .i64 4, .int .i64 an, .string nm4] 61)) := o1.alloc _
  have hA := heap_alloc_new w1 (.cells #[.int .i64 4, .int .i64 an, .string nm4] 61)
  have hgA := kept8 oA hlt
  clear hok herr
  go_wp2_with fail
  refine (passIf_yes r S1 (M.ch 46) _ rA hd (by decide)).mono ?_
  rintro e w2 ⟨rfl, r2, o2⟩
  have hA2 := kept_new o2 r1.lt
  obtain ⟨a0, a1, a2, af, az⟩ := cells3 hA2
  have oA2 := oA.trans o2
  cases hnm : M.name S1.adv with
  | error f =>
    have hcall : Calls Tryz.prog 50 #[.pointer (some ⟨r, 0, none⟩)] w2.drew fun e w' => e = .panicked (stopOf f) ∧ Only r w2 w' :=
      (name_any r S1.adv _ r2.drew).mono fun e w' ⟨o1, _, h2⟩ => ⟨h2 f hnm, (Only.refl r w2).drew.trans o1⟩
    go_wp2_with fail
    refine wp_region_held_drew (S := fun w' => w'.cell? ⟨w1.heap.size, 2, none⟩ = some (.string nm4)) (by kernel_rfl) a2 (fun hHeld => ?_)
    refine wpAnyH_take (i := 0) (oi := _) (v := .pointer (some ⟨w1.heap.size, 2, none⟩)) rfl (by kernel_rfl) (by kernel_rfl) (by kernel_rfl) (fun _ _ _ h => h) (Or.inl ⟨by rfl, ?_⟩) hHeld ?_
    · intro w hSw
      try dsimp only at hSw
      go_simp
    simp only [Act.put, List.setIfInBounds_toArray]
    refine wpAnyH_take (i := 1) (oi := _) (v := .string nm4) rfl (by kernel_rfl) (by kernel_rfl) (by kernel_rfl) (fun _ _ _ h => h) (Or.inl ⟨by rfl, ?_⟩) hHeld ?_
    · intro w hSw
      try dsimp only at hSw
      go_simp
    simp only [Act.put]
    refine wpAnyH_take (i := 2) (oi := _) (v := .pointer (some ⟨r, 0, none⟩)) rfl (by kernel_rfl) (by kernel_rfl) (by kernel_rfl) (fun _ _ _ h => h) (Or.inl ⟨by rfl, ?_⟩) hHeld ?_
    · intro w hSw
      try dsimp only at hSw
      go_simp
    simp only [Act.put]
    refine wpAnyH_ready (rs := [3]) (by kernel_rfl) (by simp) ?_
    refine AllReadyH.cons rfl (fun K hK => ?_) AllReadyH.nil
    go_simp
    refine hcall.mono ?_
    rintro e w4 ⟨rfl, o4⟩
    exact ⟨rfl, Ends.err (by rw [HR.out, hnm]; rfl) ((o0.trans oA2).trans o4)⟩
  | ok p =>
    obtain ⟨S2, nm⟩ := p
    have hcall : Calls Tryz.prog 50 #[.pointer (some ⟨r, 0, none⟩)] w2.drew fun e w' => e = .returned (.string nm) ∧ Rd w' r S2 ∧ Only r w2 w' ∧ w'.heap[w1.heap.size]? = some (.cells #[.int .i64 4, .int .i64 an, .string nm4] 61) ∧ w'.heap[w.heap.size]? = some zero8 :=
      (name_any r S1.adv _ r2.drew).mono fun e w' ⟨o1, h1, _⟩ => by
        obtain ⟨v1, rfl, q1, hv1⟩ := h1 S2 nm hnm
        have o3 : Only r w2 w' := (Only.refl r w2).drew.trans o1
        exact ⟨by rw [hv1], q1, o3, (o3.block _ az (by have := r1.lt; omega)).trans hA2, kept8 (oA2.trans o3) hlt⟩
    have hsm : w1.heap.size < w2.heap.size := az
    have hsg : w.heap.size < w2.heap.size := by omega
    go_wp2_with fail
    go_region_law (first | (go_simp; go_at_call 50; refine hcall.mono ?_; rintro e w3 ⟨rfl, r3, o3, hA3, hg3⟩; obtain ⟨b0, b1, b2, bf, bz⟩ := cells3 hA3; obtain ⟨q0, q1, q2, q3, q4, q5, q6, q7, qf, qz⟩ := cells8 hg3))
    all_goals
      go_wp2_with fail
      exact ret8 (enc := valEnc w) (res := M.value S) (S' := S2) (a := (⟨2, nm4, nm, [], []⟩ : M.Val)) (res_value (by rfl) (put8_at hg3 _ _ _ _ _ _ _ _)) (by rw [HR.out, hnm]; rfl) (put8_only (o0.trans (oA2.trans o3)) (Nat.le_refl _) _ _ _ _ _ _ _ _) (put8_rd r3 hlt _ _ _ _ _ _ _ _) ⟨_, _, rfl, OpsAt.nil _ _, StrsAt.nil _ _⟩

set_option maxRecDepth 8000 in
set_option maxHeartbeats 1600000 in
theorem value_apply (r : Nat) (S : M.St) (w : World) (h : Rd w r S) (h1 : S.at M.kIn = false) (h2 : S.at M.kCall = false) (h3 : S.at M.kNew = false) (S1 : M.St) (an : Int) (nm4 : ByteArray) (hop : M.operand S = .ok (S1, ⟨4, an, nm4⟩)) (hd : S1.at (M.ch 46) = false) (hb : S1.at (M.ch 40) = true) :
    Calls Tryz.prog 83 #[.pointer (some ⟨r, 0, none⟩)] w (Ends r w (valEnc w) (M.value S)) := by
  have hlt := h.lt
  have ha := h.alloc zero8
  have o0 : Only r w (w.alloc zero8) := (Only.refl r w).alloc _
  have HR : Hid (M.value S = M.bnd (M.operands S1) fun S2 l => .ok (S2, ⟨6, nm4, M.em, l, []⟩)) := by unfold Hid; simp [M.value, h1, h2, h3, hop, M.bnd, M.value2, hd, hb]
  go_enter Tryz.func83, Tryz.ntmps83
  go_wp2_with fail
  refine (passIf_no r S M.kIn _ ha h1).mono ?_
  rintro e w' ⟨rfl, rfl⟩
  go_wp2_with fail
  refine (passIf_no r S M.kCall _ ha h2).mono ?_
  rintro e w' ⟨rfl, rfl⟩
  go_wp2_with fail
  refine (passIf_no r S M.kNew _ ha h3).mono ?_
  rintro e w' ⟨rfl, rfl⟩
  go_wp2_with fail
  refine (operand_any r S _ ha).mono ?_
  rintro e w1 ⟨o1, hok, herr⟩
  obtain ⟨v1, rfl, r1, hv1⟩ := hok S1 _ hop
  obtain rfl : v1 = .agg #[.int .i64 4, .int .i64 an, .string nm4] := hv1
  have hz1 := o1.size
  rw [World.size_alloc] at hz1
  have rA := r1.alloc (.cells #[.int .i64 4, .int .i64 an, .string nm4] 61)
  have oA : Only r (w.alloc zero8) (w1.alloc (.cells #[.int .i64 4, .int .i64 an, .string nm4] 61)) := o1.alloc _
  have hA := heap_alloc_new w1 (.cells #[.int .i64 4, .int .i64 an, .string nm4] 61)
  have hgA := kept8 oA hlt
  clear hok herr
  have hat := at_any r S1 (M.ch 40) _ rA
  rw [hb] at hat
  go_wp2_with fail
  refine (passIf_no r S1 (M.ch 46) _ rA hd).mono ?_
  rintro e w' ⟨rfl, rfl⟩
  go_wp2_with fail
  refine hat.mono ?_
  rintro e w' ⟨rfl, rfl⟩
  generalize hw2 : w1.alloc (.cells #[.int .i64 4, .int .i64 an, .string nm4] 61) = w2 at rA oA hA hgA ⊢
  have HW2 := hid hw2
  clear hw2
  have hA2 : w2.heap[w1.heap.size]? = some (.cells #[.int .i64 4, .int .i64 an, .string nm4] 61) := hA
  have r2 := rA
  obtain ⟨a0, a1, a2, af, az⟩ := cells3 hA2
  have oA2 := oA
  cases hnm : M.operands S1 with
  | error f =>
    have hcall : Calls Tryz.prog 85 #[.pointer (some ⟨r, 0, none⟩)] w2.drew fun e w' => e = .panicked (stopOf f) ∧ Only r w2 w' :=
      (operands_any r S1 _ r2.drew).mono fun e w' ⟨o1, _, h2⟩ => ⟨h2 f hnm, (Only.refl r w2).drew.trans o1⟩
    go_wp2_with fail
    refine wp_region_held_drew (S := fun w' => w'.cell? ⟨w1.heap.size, 2, none⟩ = some (.string nm4)) (by kernel_rfl) a2 (fun hHeld => ?_)
    refine wpAnyH_take (i := 0) (oi := _) (v := .pointer (some ⟨w1.heap.size, 2, none⟩)) rfl (by kernel_rfl) (by kernel_rfl) (by kernel_rfl) (fun _ _ _ h => h) (Or.inl ⟨by rfl, ?_⟩) hHeld ?_
    · intro w hSw
      try dsimp only at hSw
      go_simp
    simp only [Act.put, List.setIfInBounds_toArray]
    refine wpAnyH_take (i := 1) (oi := _) (v := .string nm4) rfl (by kernel_rfl) (by kernel_rfl) (by kernel_rfl) (fun _ _ _ h => h) (Or.inl ⟨by rfl, ?_⟩) hHeld ?_
    · intro w hSw
      try dsimp only at hSw
      go_simp
    simp only [Act.put]
    refine wpAnyH_take (i := 2) (oi := _) (v := .pointer (some ⟨r, 0, none⟩)) rfl (by kernel_rfl) (by kernel_rfl) (by kernel_rfl) (fun _ _ _ h => h) (Or.inl ⟨by rfl, ?_⟩) hHeld ?_
    · intro w hSw
      try dsimp only at hSw
      go_simp
    simp only [Act.put]
    refine wpAnyH_ready (rs := [3]) (by kernel_rfl) (by simp) ?_
    refine AllReadyH.cons rfl (fun K hK => ?_) AllReadyH.nil
    go_simp
    refine hcall.mono ?_
    rintro e w4 ⟨rfl, o4⟩
    exact ⟨rfl, Ends.err (by rw [HR.out, hnm]; rfl) ((o0.trans oA2).trans o4)⟩
  | ok p =>
    obtain ⟨S2, nm⟩ := p
    have hcall : Calls Tryz.prog 85 #[.pointer (some ⟨r, 0, none⟩)] w2.drew fun e w' => (∃ v, e = .returned v ∧ OpsAt w' (Old w2) v nm) ∧ Rd w' r S2 ∧ Only r w2 w' ∧ w'.heap[w1.heap.size]? = some (.cells #[.int .i64 4, .int .i64 an, .string nm4] 61) ∧ w'.heap[w.heap.size]? = some zero8 :=
      (operands_any r S1 _ r2.drew).mono fun e w' ⟨o1, h1, _⟩ => by
        obtain ⟨v1, rfl, q1, hv1⟩ := h1 S2 nm hnm
        have o3 : Only r w2 w' := (Only.refl r w2).drew.trans o1
        exact ⟨⟨v1, rfl, hv1⟩, q1, o3, (o3.block _ az (by have := r1.lt; omega)).trans hA2, kept8 (oA2.trans o3) hlt⟩
    have hsm : w1.heap.size < w2.heap.size := az
    have hsg : w.heap.size < w2.heap.size := by omega
    go_wp2_with fail
    go_region_law (first | (go_simp; go_at_call 85; refine hcall.mono ?_; rintro e w3 ⟨⟨v3, rfl, hv3⟩, r3, o3, hA3, hg3⟩; obtain ⟨av, cv, rfl⟩ := SlAt.form hv3; obtain ⟨b0, b1, b2, bf, bz⟩ := cells3 hA3; obtain ⟨q0, q1, q2, q3, q4, q5, q6, q7, qf, qz⟩ := cells8 hg3))
    all_goals
      go_wp2_with fail
      exact ret8 (enc := valEnc w) (res := M.value S) (S' := S2) (a := (⟨6, nm4, M.em, nm, []⟩ : M.Val)) (res_value (by rfl) (put8_at hg3 _ _ _ _ _ _ _ _)) (by rw [HR.out, hnm]; rfl) (put8_only (o0.trans (oA2.trans o3)) (Nat.le_refl _) _ _ _ _ _ _ _ _) (put8_rd r3 hlt _ _ _ _ _ _ _ _) ⟨_, _, rfl, OpsAt.fresh hv3 (put8_keep (by show w.heap.size < _; omega) _ _ _ _ _ _ _ _) (by omega), StrsAt.nil _ _⟩

set_option maxRecDepth 8000 in
set_option maxHeartbeats 1600000 in
theorem value_arithV (r : Nat) (S : M.St) (w : World) (h : Rd w r S) (h1 : S.at M.kIn = false) (h2 : S.at M.kCall = false) (h3 : S.at M.kNew = false) (S1 : M.St) (an : Int) (nm4 : ByteArray) (hop : M.operand S = .ok (S1, ⟨4, an, nm4⟩)) (hd : S1.at (M.ch 46) = false) (hb : S1.at (M.ch 40) = false) (har : S1.atArith = true) :
    Calls Tryz.prog 83 #[.pointer (some ⟨r, 0, none⟩)] w (Ends r w (valEnc w) (M.value S)) := by
  have hlt := h.lt
  have ha := h.alloc zero8
  have o0 : Only r w (w.alloc zero8) := (Only.refl r w).alloc _
  have HR : Hid (M.value S = M.bnd (M.operand S1.adv) fun S2 b => .ok (S2, ⟨1, M.em, S1.now.t, [⟨4, an, nm4⟩, b], []⟩)) := by unfold Hid; simp [M.value, h1, h2, h3, hop, M.bnd, M.value2, har, hd, hb]
  go_enter Tryz.func83, Tryz.ntmps83
  go_wp2_with fail
  refine (passIf_no r S M.kIn _ ha h1).mono ?_
  rintro e w' ⟨rfl, rfl⟩
  go_wp2_with fail
  refine (passIf_no r S M.kCall _ ha h2).mono ?_
  rintro e w' ⟨rfl, rfl⟩
  go_wp2_with fail
  refine (passIf_no r S M.kNew _ ha h3).mono ?_
  rintro e w' ⟨rfl, rfl⟩
  go_wp2_with fail
  refine (operand_any r S _ ha).mono ?_
  rintro e w1 ⟨o1, hok, herr⟩
  obtain ⟨v1, rfl, r1, hv1⟩ := hok S1 _ hop
  obtain rfl : v1 = .agg #[.int .i64 4, .int .i64 an, .string nm4] := hv1
  have hz1 := o1.size
  rw [World.size_alloc] at hz1
  have rA := r1.alloc (.cells #[.int .i64 4, .int .i64 an, .string nm4] 61)
  have oA : Only r (w.alloc zero8) (w1.alloc (.cells #[.int .i64 4, .int .i64 an, .string nm4] 61)) := o1.alloc _
  have hA := heap_alloc_new w1 (.cells #[.int .i64 4, .int .i64 an, .string nm4] 61)
  have hgA := kept8 oA hlt
  clear hok herr
  have har' := atArith_any r S1 _ rA
  rw [har] at har'
  have hne := M.arith_ne har
  have hat := at_any r S1 (M.ch 40) _ rA
  rw [hb] at hat
  go_wp2_with fail
  refine (passIf_no r S1 (M.ch 46) _ rA hd).mono ?_
  rintro e w' ⟨rfl, rfl⟩
  go_wp2_with fail
  refine hat.mono ?_
  rintro e w' ⟨rfl, rfl⟩
  go_wp2_with fail
  refine har'.mono ?_
  rintro e w' ⟨rfl, rfl⟩
  go_wp2_with fail
  refine (pass_any r S1 _ rA hne).mono ?_
  rintro e w2 ⟨rfl, r2, o2⟩
  have hA2 := kept_new o2 r1.lt
  obtain ⟨az0, az1, az2, azf, az⟩ := cells3 hA2
  have oA2 := oA.trans o2
  have rB := r2.alloc (.cells #[.int .i64 1, .string ⟨#[]⟩, .string ⟨#[]⟩, .string S1.now.t, .slice none 0 0, .slice none 0 0, .slice none 0 0, .slice none 0 0] 59)
  have hB := heap_alloc_new w2 (.cells #[.int .i64 1, .string ⟨#[]⟩, .string ⟨#[]⟩, .string S1.now.t, .slice none 0 0, .slice none 0 0, .slice none 0 0, .slice none 0 0] 59)
  have oB : Only r w2 (w2.alloc (.cells #[.int .i64 1, .string ⟨#[]⟩, .string ⟨#[]⟩, .string S1.now.t, .slice none 0 0, .slice none 0 0, .slice none 0 0, .slice none 0 0] 59)) := (Only.refl r w2).alloc _
  have hzB : (w2.alloc (.cells #[.int .i64 1, .string ⟨#[]⟩, .string ⟨#[]⟩, .string S1.now.t, .slice none 0 0, .slice none 0 0, .slice none 0 0, .slice none 0 0] 59)).heap.size = w2.heap.size + 1 := World.size_alloc _ _
  have hA3 := (oB.block w1.heap.size az (by have := r1.lt; omega)).trans hA2
  generalize hwB : w2.alloc (.cells #[.int .i64 1, .string ⟨#[]⟩, .string ⟨#[]⟩, .string S1.now.t, .slice none 0 0, .slice none 0 0, .slice none 0 0, .slice none 0 0] 59) = wB at rB hB oB hzB hA3
  have HWB := hid hwB
  have HZB := hid hzB
  clear hwB hzB
  obtain ⟨a0, a1, a2, af, azB⟩ := cells3 hA3
  have hne1 : w1.heap.size ≠ r := by have := r1.lt; omega
  have hne2 : w2.heap.size ≠ r := by have := r2.lt; omega
  have hsz2 : w2.heap.size < wB.heap.size := by have := HZB.out; omega
  cases hnm : M.operand S1.adv with
  | error f =>
    have hcall : Calls Tryz.prog 82 #[.pointer (some ⟨r, 0, none⟩)] wB.drew fun e w' => e = .panicked (stopOf f) ∧ Only r wB w' :=
      (operand_any r S1.adv _ rB.drew).mono fun e w' ⟨o1, _, h2⟩ => ⟨h2 f hnm, (Only.refl r wB).drew.trans o1⟩
    go_wp2_with fail
    rw [HWB.out]
    refine wp_region_held_drew (S := fun w' => w'.cell? ⟨w1.heap.size, 0, none⟩ = some (.int .i64 4) ∧ w'.cell? ⟨w1.heap.size, 1, none⟩ = some (.int .i64 an) ∧ w'.cell? ⟨w1.heap.size, 2, none⟩ = some (.string nm4)) (by kernel_rfl) ⟨a0, a1, a2⟩ (fun hHeld => ?_)
    refine wpAnyH_take (i := 0) (oi := _) (v := .agg #[.int .i64 4, .int .i64 an, .string nm4]) rfl (by kernel_rfl) (by kernel_rfl) (by kernel_rfl) (fun _ _ _ h => h) (Or.inl ⟨by rfl, ?_⟩) hHeld ?_
    · intro w hSw
      try dsimp only at hSw
      go_simp
    simp only [Act.put, List.setIfInBounds_toArray]
    refine wpAnyH_take (i := 1) (oi := _) (v := .pointer (some ⟨r, 0, none⟩)) rfl (by kernel_rfl) (by kernel_rfl) (by kernel_rfl) (fun _ _ _ h => h) (Or.inl ⟨by rfl, ?_⟩) hHeld ?_
    · intro w hSw
      try dsimp only at hSw
      go_simp
    simp only [Act.put]
    refine wpAnyH_ready (rs := [2]) (by kernel_rfl) (by simp) ?_
    refine AllReadyH.cons rfl (fun K hK => ?_) AllReadyH.nil
    go_simp
    refine hcall.mono ?_
    rintro e w4 ⟨rfl, o4⟩
    exact ⟨rfl, Ends.err (by rw [HR.out, hnm]; rfl) ((o0.trans (oA2.trans oB)).trans o4)⟩
  | ok p =>
    obtain ⟨S2, b⟩ := p
    have hcall : Calls Tryz.prog 82 #[.pointer (some ⟨r, 0, none⟩)] wB.drew fun e w' => e = .returned (.agg #[.int .i64 b.k, .int .i64 b.n, .string b.s]) ∧ Rd w' r S2 ∧ Only r wB w' ∧ w'.heap[w1.heap.size]? = some (.cells #[.int .i64 4, .int .i64 an, .string nm4] 61) ∧ w'.heap[w.heap.size]? = some zero8 ∧ w'.heap[w2.heap.size]? = some (.cells #[.int .i64 1, .string ⟨#[]⟩, .string ⟨#[]⟩, .string S1.now.t, .slice none 0 0, .slice none 0 0, .slice none 0 0, .slice none 0 0] 59) :=
      (operand_any r S1.adv _ rB.drew).mono fun e w' ⟨o1, h1, _⟩ => by
        obtain ⟨v1, rfl, q1, hv1⟩ := h1 S2 b hnm
        have o3 : Only r wB w' := (Only.refl r wB).drew.trans o1
        exact ⟨by rw [hv1], q1, o3, (o3.block _ azB hne1).trans hA3, kept8 (oA2.trans (oB.trans o3)) hlt, (o3.block _ hsz2 hne2).trans hB⟩
    have hsm : w1.heap.size < w2.heap.size := az
    have hsg : w.heap.size < w2.heap.size := by omega
    have hgL : ¬ w.heap.size = w2.heap.size := by omega
    have hLg : ¬ w2.heap.size = w.heap.size := by omega
    go_wp2_with fail
    rw [HWB.out]
    go_region_law (first | (go_simp; go_at_call 82; refine hcall.mono ?_; rintro e w3 ⟨rfl, r3, o3, hA4, hg3, hL3⟩; obtain ⟨b0, b1, b2, bf, bz⟩ := cells3 hA4; obtain ⟨k0, k1, k2, k3, k4, k5, k6, k7, kf, kz⟩ := cells8 hL3; obtain ⟨q0, q1, q2, q3, q4, q5, q6, q7, qf, qz⟩ := cells8 hg3; have hneN : ¬ w2.heap.size = w3.heap.size := (by omega); have hneN' : ¬ w3.heap.size = w2.heap.size := (by omega)))
    all_goals
      go_wp2_with fail
      have hW : Only r w (w3.setCell ⟨w2.heap.size, 4, none⟩ (.slice (some ⟨w3.heap.size, 0, none⟩) 2 2)) := (o0.trans (oA2.trans (oB.trans o3))).setCell (.inr (by show w.heap.size ≤ w2.heap.size; omega)) _
      have rW : Rd (w3.setCell ⟨w2.heap.size, 4, none⟩ (.slice (some ⟨w3.heap.size, 0, none⟩) 2 2)) r S2 := r3.setCell (by show r < w2.heap.size; exact r2.lt) _
      have hg' : (w3.setCell ⟨w2.heap.size, 4, none⟩ (.slice (some ⟨w3.heap.size, 0, none⟩) 2 2)).heap[w.heap.size]? = _ := (Below.heap_setCell _ _ _ _ hgL).trans hg3
      have hn := slAt_newAt (put8 (w3.setCell ⟨w2.heap.size, 4, none⟩ (.slice (some ⟨w3.heap.size, 0, none⟩) 2 2)) w.heap.size (.int .i64 1) (.string ⟨#[]⟩) (.string ⟨#[]⟩) (.string S1.now.t) (.slice (some ⟨w3.heap.size, 0, none⟩) 2 2) (.slice none 0 0) (.slice none 0 0) (.slice none 0 0)) (Old w) 61 w3.heap.size 2 2 [.int .i64 4, .int .i64 an, .string nm4, .int .i64 b.k, .int .i64 b.n, .string b.s] #[.int .i64 4, .int .i64 an, .string nm4, .int .i64 b.k, .int .i64 b.n, .string b.s] (by rw [put8_size]; simp [World.setCell]) (by show ¬ w3.heap.size < w.heap.size; omega) (by omega) rfl
      exact ret8 (enc := valEnc w) (res := M.value S) (S' := S2) (a := (⟨1, M.em, S1.now.t, [⟨4, an, nm4⟩, b], []⟩ : M.Val)) (res_value (by rfl) ((Below.heap_alloc _ _ _ (by rw [put8_size]; simp [World.setCell]; omega)).trans (put8_at hg' _ _ _ _ _ _ _ _))) (by rw [HR.out, hnm]; rfl) ((put8_only hW (Nat.le_refl _) _ _ _ _ _ _ _ _).alloc _) ((put8_rd rW hlt _ _ _ _ _ _ _ _).alloc _) ⟨_, _, rfl, hn, StrsAt.nil _ _⟩

set_option maxRecDepth 8000 in
set_option maxHeartbeats 1600000 in
theorem value_moveV (r : Nat) (S : M.St) (w : World) (h : Rd w r S) (h1 : S.at M.kIn = false) (h2 : S.at M.kCall = false) (h3 : S.at M.kNew = false) (S1 : M.St) (an : Int) (nm4 : ByteArray) (hop : M.operand S = .ok (S1, ⟨4, an, nm4⟩)) (hd : S1.at (M.ch 46) = false) (hb : S1.at (M.ch 40) = false) (har : S1.atArith = false) :
    Calls Tryz.prog 83 #[.pointer (some ⟨r, 0, none⟩)] w (Ends r w (valEnc w) (M.value S)) := by
  have hlt := h.lt
  have ha := h.alloc zero8
  have o0 : Only r w (w.alloc zero8) := (Only.refl r w).alloc _
  have HR : Hid (M.value S = .ok (S1, ⟨0, M.em, M.em, [⟨4, an, nm4⟩], []⟩)) := by unfold Hid; simp [M.value, h1, h2, h3, hop, M.bnd, M.value2, har, hd, hb]
  go_enter Tryz.func83, Tryz.ntmps83
  go_wp2_with fail
  refine (passIf_no r S M.kIn _ ha h1).mono ?_
  rintro e w' ⟨rfl, rfl⟩
  go_wp2_with fail
  refine (passIf_no r S M.kCall _ ha h2).mono ?_
  rintro e w' ⟨rfl, rfl⟩
  go_wp2_with fail
  refine (passIf_no r S M.kNew _ ha h3).mono ?_
  rintro e w' ⟨rfl, rfl⟩
  go_wp2_with fail
  refine (operand_any r S _ ha).mono ?_
  rintro e w1 ⟨o1, hok, herr⟩
  obtain ⟨v1, rfl, r1, hv1⟩ := hok S1 _ hop
  obtain rfl : v1 = .agg #[.int .i64 4, .int .i64 an, .string nm4] := hv1
  have hz1 := o1.size
  rw [World.size_alloc] at hz1
  have rA := r1.alloc (.cells #[.int .i64 4, .int .i64 an, .string nm4] 61)
  have oA : Only r (w.alloc zero8) (w1.alloc (.cells #[.int .i64 4, .int .i64 an, .string nm4] 61)) := o1.alloc _
  have hA := heap_alloc_new w1 (.cells #[.int .i64 4, .int .i64 an, .string nm4] 61)
  have hgA := kept8 oA hlt
  clear hok herr
  have har' := atArith_any r S1 _ rA
  rw [har] at har'
  have hat := at_any r S1 (M.ch 40) _ rA
  rw [hb] at hat
  go_wp2_with fail
  refine (passIf_no r S1 (M.ch 46) _ rA hd).mono ?_
  rintro e w' ⟨rfl, rfl⟩
  go_wp2_with fail
  refine hat.mono ?_
  rintro e w' ⟨rfl, rfl⟩
  go_wp2_with fail
  refine har'.mono ?_
  rintro e w' ⟨rfl, rfl⟩
  have hg1 := kept8 o1 hlt
  obtain ⟨q0, q1, q2, q3, q4, q5, q6, q7, qf, qz⟩ := cells8 hg1
  have hgn : ¬ w.heap.size = w1.heap.size := by omega
  have hgn' : ¬ w1.heap.size = w.heap.size := by omega
  go_wp2_with fail
  have hn := slAt_newAt ((put8 w1 w.heap.size (.int .i64 0) (.string ⟨#[]⟩) (.string ⟨#[]⟩) (.string ⟨#[]⟩) (.slice (some ⟨w1.heap.size + 1, 0, none⟩) 1 1) (.slice none 0 0) (.slice none 0 0) (.slice none 0 0)).alloc (.cells #[.int .i64 4, .int .i64 an, .string nm4] 61)) (Old w) 61 (w1.heap.size + 1) 1 1 [.int .i64 4, .int .i64 an, .string nm4] #[.int .i64 4, .int .i64 an, .string nm4] (by rw [World.size_alloc, put8_size]) (by show ¬ w1.heap.size + 1 < w.heap.size; omega) (by omega) rfl
  exact ret8 (enc := valEnc w) (res := M.value S) (S' := S1) (a := (⟨0, M.em, M.em, [⟨4, an, nm4⟩], []⟩ : M.Val)) (res_value (by rfl) ((Below.heap_alloc _ _ _ (by rw [World.size_alloc, put8_size]; omega)).trans ((Below.heap_alloc _ _ _ (by rw [put8_size]; omega)).trans (put8_at hg1 _ _ _ _ _ _ _ _)))) HR.out (((put8_only (o0.trans o1) (Nat.le_refl _) _ _ _ _ _ _ _ _).alloc _).alloc _) (((put8_rd r1 hlt _ _ _ _ _ _ _ _).alloc _).alloc _) ⟨_, _, rfl, hn, StrsAt.nil _ _⟩

set_option maxRecDepth 8000 in
set_option maxHeartbeats 1600000 in
theorem value_arithN (r : Nat) (S : M.St) (w : World) (h : Rd w r S) (h1 : S.at M.kIn = false) (h2 : S.at M.kCall = false) (h3 : S.at M.kNew = false) (S1 : M.St) (a : M.Opd) (hop : M.operand S = .ok (S1, a)) (hk : ¬ a.k = 4) (har : S1.atArith = true) :
    Calls Tryz.prog 83 #[.pointer (some ⟨r, 0, none⟩)] w (Ends r w (valEnc w) (M.value S)) := by
  have hlt := h.lt
  have ha := h.alloc zero8
  have o0 : Only r w (w.alloc zero8) := (Only.refl r w).alloc _
  have HR : Hid (M.value S = M.bnd (M.operand S1.adv) fun S2 b => .ok (S2, ⟨1, M.em, S1.now.t, [a, b], []⟩)) := by unfold Hid; simp [M.value, h1, h2, h3, hop, M.bnd, M.value2, har, hk]
  go_enter Tryz.func83, Tryz.ntmps83
  go_wp2_with fail
  refine (passIf_no r S M.kIn _ ha h1).mono ?_
  rintro e w' ⟨rfl, rfl⟩
  go_wp2_with fail
  refine (passIf_no r S M.kCall _ ha h2).mono ?_
  rintro e w' ⟨rfl, rfl⟩
  go_wp2_with fail
  refine (passIf_no r S M.kNew _ ha h3).mono ?_
  rintro e w' ⟨rfl, rfl⟩
  go_wp2_with fail
  refine (operand_any r S _ ha).mono ?_
  rintro e w1 ⟨o1, hok, herr⟩
  obtain ⟨v1, rfl, r1, hv1⟩ := hok S1 _ hop
  obtain rfl : v1 = .agg #[.int .i64 a.k, .int .i64 a.n, .string a.s] := hv1
  have hz1 := o1.size
  rw [World.size_alloc] at hz1
  have rA := r1.alloc (.cells #[.int .i64 a.k, .int .i64 a.n, .string a.s] 61)
  have oA : Only r (w.alloc zero8) (w1.alloc (.cells #[.int .i64 a.k, .int .i64 a.n, .string a.s] 61)) := o1.alloc _
  have hA := heap_alloc_new w1 (.cells #[.int .i64 a.k, .int .i64 a.n, .string a.s] 61)
  have hgA := kept8 oA hlt
  clear hok herr
  have har' := atArith_any r S1 _ rA
  rw [har] at har'
  have hne := M.arith_ne har
  have hkb : (a.k == 4) = false := by simpa using hk
  go_wp2_with fail
  refine har'.mono ?_
  rintro e w' ⟨rfl, rfl⟩
  go_wp2_with fail
  refine (pass_any r S1 _ rA hne).mono ?_
  rintro e w2 ⟨rfl, r2, o2⟩
  have hA2 := kept_new o2 r1.lt
  obtain ⟨az0, az1, az2, azf, az⟩ := cells3 hA2
  have oA2 := oA.trans o2
  have rB := r2.alloc (.cells #[.int .i64 1, .string ⟨#[]⟩, .string ⟨#[]⟩, .string S1.now.t, .slice none 0 0, .slice none 0 0, .slice none 0 0, .slice none 0 0] 59)
  have hB := heap_alloc_new w2 (.cells #[.int .i64 1, .string ⟨#[]⟩, .string ⟨#[]⟩, .string S1.now.t, .slice none 0 0, .slice none 0 0, .slice none 0 0, .slice none 0 0] 59)
  have oB : Only r w2 (w2.alloc (.cells #[.int .i64 1, .string ⟨#[]⟩, .string ⟨#[]⟩, .string S1.now.t, .slice none 0 0, .slice none 0 0, .slice none 0 0, .slice none 0 0] 59)) := (Only.refl r w2).alloc _
  have hzB : (w2.alloc (.cells #[.int .i64 1, .string ⟨#[]⟩, .string ⟨#[]⟩, .string S1.now.t, .slice none 0 0, .slice none 0 0, .slice none 0 0, .slice none 0 0] 59)).heap.size = w2.heap.size + 1 := World.size_alloc _ _
  have hA3 := (oB.block w1.heap.size az (by have := r1.lt; omega)).trans hA2
  generalize hwB : w2.alloc (.cells #[.int .i64 1, .string ⟨#[]⟩, .string ⟨#[]⟩, .string S1.now.t, .slice none 0 0, .slice none 0 0, .slice none 0 0, .slice none 0 0] 59) = wB at rB hB oB hzB hA3
  have HWB := hid hwB
  have HZB := hid hzB
  clear hwB hzB
  obtain ⟨a0, a1, a2, af, azB⟩ := cells3 hA3
  have hne1 : w1.heap.size ≠ r := by have := r1.lt; omega
  have hne2 : w2.heap.size ≠ r := by have := r2.lt; omega
  have hsz2 : w2.heap.size < wB.heap.size := by have := HZB.out; omega
  cases hnm : M.operand S1.adv with
  | error f =>
    have hcall : Calls Tryz.prog 82 #[.pointer (some ⟨r, 0, none⟩)] wB.drew fun e w' => e = .panicked (stopOf f) ∧ Only r wB w' :=
      (operand_any r S1.adv _ rB.drew).mono fun e w' ⟨o1, _, h2⟩ => ⟨h2 f hnm, (Only.refl r wB).drew.trans o1⟩
    go_wp2_with fail
    rw [HWB.out]
    refine wp_region_held_drew (S := fun w' => w'.cell? ⟨w1.heap.size, 0, none⟩ = some (.int .i64 a.k) ∧ w'.cell? ⟨w1.heap.size, 1, none⟩ = some (.int .i64 a.n) ∧ w'.cell? ⟨w1.heap.size, 2, none⟩ = some (.string a.s)) (by kernel_rfl) ⟨a0, a1, a2⟩ (fun hHeld => ?_)
    refine wpAnyH_take (i := 0) (oi := _) (v := .agg #[.int .i64 a.k, .int .i64 a.n, .string a.s]) rfl (by kernel_rfl) (by kernel_rfl) (by kernel_rfl) (fun _ _ _ h => h) (Or.inl ⟨by rfl, ?_⟩) hHeld ?_
    · intro w hSw
      try dsimp only at hSw
      go_simp
    simp only [Act.put, List.setIfInBounds_toArray]
    refine wpAnyH_take (i := 1) (oi := _) (v := .pointer (some ⟨r, 0, none⟩)) rfl (by kernel_rfl) (by kernel_rfl) (by kernel_rfl) (fun _ _ _ h => h) (Or.inl ⟨by rfl, ?_⟩) hHeld ?_
    · intro w hSw
      try dsimp only at hSw
      go_simp
    simp only [Act.put]
    refine wpAnyH_ready (rs := [2]) (by kernel_rfl) (by simp) ?_
    refine AllReadyH.cons rfl (fun K hK => ?_) AllReadyH.nil
    go_simp
    refine hcall.mono ?_
    rintro e w4 ⟨rfl, o4⟩
    exact ⟨rfl, Ends.err (by rw [HR.out, hnm]; rfl) ((o0.trans (oA2.trans oB)).trans o4)⟩
  | ok p =>
    obtain ⟨S2, b⟩ := p
    have hcall : Calls Tryz.prog 82 #[.pointer (some ⟨r, 0, none⟩)] wB.drew fun e w' => e = .returned (.agg #[.int .i64 b.k, .int .i64 b.n, .string b.s]) ∧ Rd w' r S2 ∧ Only r wB w' ∧ w'.heap[w1.heap.size]? = some (.cells #[.int .i64 a.k, .int .i64 a.n, .string a.s] 61) ∧ w'.heap[w.heap.size]? = some zero8 ∧ w'.heap[w2.heap.size]? = some (.cells #[.int .i64 1, .string ⟨#[]⟩, .string ⟨#[]⟩, .string S1.now.t, .slice none 0 0, .slice none 0 0, .slice none 0 0, .slice none 0 0] 59) :=
      (operand_any r S1.adv _ rB.drew).mono fun e w' ⟨o1, h1, _⟩ => by
        obtain ⟨v1, rfl, q1, hv1⟩ := h1 S2 b hnm
        have o3 : Only r wB w' := (Only.refl r wB).drew.trans o1
        exact ⟨by rw [hv1], q1, o3, (o3.block _ azB hne1).trans hA3, kept8 (oA2.trans (oB.trans o3)) hlt, (o3.block _ hsz2 hne2).trans hB⟩
    have hsm : w1.heap.size < w2.heap.size := az
    have hsg : w.heap.size < w2.heap.size := by omega
    have hgL : ¬ w.heap.size = w2.heap.size := by omega
    have hLg : ¬ w2.heap.size = w.heap.size := by omega
    go_wp2_with fail
    rw [HWB.out]
    go_region_law (first | (go_simp; go_at_call 82; refine hcall.mono ?_; rintro e w3 ⟨rfl, r3, o3, hA4, hg3, hL3⟩; obtain ⟨b0, b1, b2, bf, bz⟩ := cells3 hA4; obtain ⟨k0, k1, k2, k3, k4, k5, k6, k7, kf, kz⟩ := cells8 hL3; obtain ⟨q0, q1, q2, q3, q4, q5, q6, q7, qf, qz⟩ := cells8 hg3; have hneN : ¬ w2.heap.size = w3.heap.size := (by omega); have hneN' : ¬ w3.heap.size = w2.heap.size := (by omega)))
    all_goals
      go_wp2_with fail
      have hW : Only r w (w3.setCell ⟨w2.heap.size, 4, none⟩ (.slice (some ⟨w3.heap.size, 0, none⟩) 2 2)) := (o0.trans (oA2.trans (oB.trans o3))).setCell (.inr (by show w.heap.size ≤ w2.heap.size; omega)) _
      have rW : Rd (w3.setCell ⟨w2.heap.size, 4, none⟩ (.slice (some ⟨w3.heap.size, 0, none⟩) 2 2)) r S2 := r3.setCell (by show r < w2.heap.size; exact r2.lt) _
      have hg' : (w3.setCell ⟨w2.heap.size, 4, none⟩ (.slice (some ⟨w3.heap.size, 0, none⟩) 2 2)).heap[w.heap.size]? = _ := (Below.heap_setCell _ _ _ _ hgL).trans hg3
      have hn := slAt_newAt (put8 (w3.setCell ⟨w2.heap.size, 4, none⟩ (.slice (some ⟨w3.heap.size, 0, none⟩) 2 2)) w.heap.size (.int .i64 1) (.string ⟨#[]⟩) (.string ⟨#[]⟩) (.string S1.now.t) (.slice (some ⟨w3.heap.size, 0, none⟩) 2 2) (.slice none 0 0) (.slice none 0 0) (.slice none 0 0)) (Old w) 61 w3.heap.size 2 2 [.int .i64 a.k, .int .i64 a.n, .string a.s, .int .i64 b.k, .int .i64 b.n, .string b.s] #[.int .i64 a.k, .int .i64 a.n, .string a.s, .int .i64 b.k, .int .i64 b.n, .string b.s] (by rw [put8_size]; simp [World.setCell]) (by show ¬ w3.heap.size < w.heap.size; omega) (by omega) rfl
      exact ret8 (enc := valEnc w) (res := M.value S) (S' := S2) (a := (⟨1, M.em, S1.now.t, [a, b], []⟩ : M.Val)) (res_value (by rfl) ((Below.heap_alloc _ _ _ (by rw [put8_size]; simp [World.setCell]; omega)).trans (put8_at hg' _ _ _ _ _ _ _ _))) (by rw [HR.out, hnm]; rfl) ((put8_only hW (Nat.le_refl _) _ _ _ _ _ _ _ _).alloc _) ((put8_rd rW hlt _ _ _ _ _ _ _ _).alloc _) ⟨_, _, rfl, hn, StrsAt.nil _ _⟩

set_option maxRecDepth 8000 in
set_option maxHeartbeats 1600000 in
theorem value_moveN (r : Nat) (S : M.St) (w : World) (h : Rd w r S) (h1 : S.at M.kIn = false) (h2 : S.at M.kCall = false) (h3 : S.at M.kNew = false) (S1 : M.St) (a : M.Opd) (hop : M.operand S = .ok (S1, a)) (hk : ¬ a.k = 4) (har : S1.atArith = false) :
    Calls Tryz.prog 83 #[.pointer (some ⟨r, 0, none⟩)] w (Ends r w (valEnc w) (M.value S)) := by
  have hlt := h.lt
  have ha := h.alloc zero8
  have o0 : Only r w (w.alloc zero8) := (Only.refl r w).alloc _
  have HR : Hid (M.value S = .ok (S1, ⟨0, M.em, M.em, [a], []⟩)) := by unfold Hid; simp [M.value, h1, h2, h3, hop, M.bnd, M.value2, har, hk]
  go_enter Tryz.func83, Tryz.ntmps83
  go_wp2_with fail
  refine (passIf_no r S M.kIn _ ha h1).mono ?_
  rintro e w' ⟨rfl, rfl⟩
  go_wp2_with fail
  refine (passIf_no r S M.kCall _ ha h2).mono ?_
  rintro e w' ⟨rfl, rfl⟩
  go_wp2_with fail
  refine (passIf_no r S M.kNew _ ha h3).mono ?_
  rintro e w' ⟨rfl, rfl⟩
  go_wp2_with fail
  refine (operand_any r S _ ha).mono ?_
  rintro e w1 ⟨o1, hok, herr⟩
  obtain ⟨v1, rfl, r1, hv1⟩ := hok S1 _ hop
  obtain rfl : v1 = .agg #[.int .i64 a.k, .int .i64 a.n, .string a.s] := hv1
  have hz1 := o1.size
  rw [World.size_alloc] at hz1
  have rA := r1.alloc (.cells #[.int .i64 a.k, .int .i64 a.n, .string a.s] 61)
  have oA : Only r (w.alloc zero8) (w1.alloc (.cells #[.int .i64 a.k, .int .i64 a.n, .string a.s] 61)) := o1.alloc _
  have hA := heap_alloc_new w1 (.cells #[.int .i64 a.k, .int .i64 a.n, .string a.s] 61)
  have hgA := kept8 oA hlt
  clear hok herr
  have har' := atArith_any r S1 _ rA
  rw [har] at har'
  have hkb : (a.k == 4) = false := by simpa using hk
  go_wp2_with fail
  refine har'.mono ?_
  rintro e w' ⟨rfl, rfl⟩
  have hg1 := kept8 o1 hlt
  obtain ⟨q0, q1, q2, q3, q4, q5, q6, q7, qf, qz⟩ := cells8 hg1
  have hgn : ¬ w.heap.size = w1.heap.size := by omega
  have hgn' : ¬ w1.heap.size = w.heap.size := by omega
  go_wp2_with fail
  have hn := slAt_newAt ((put8 w1 w.heap.size (.int .i64 0) (.string ⟨#[]⟩) (.string ⟨#[]⟩) (.string ⟨#[]⟩) (.slice (some ⟨w1.heap.size + 1, 0, none⟩) 1 1) (.slice none 0 0) (.slice none 0 0) (.slice none 0 0)).alloc (.cells #[.int .i64 a.k, .int .i64 a.n, .string a.s] 61)) (Old w) 61 (w1.heap.size + 1) 1 1 [.int .i64 a.k, .int .i64 a.n, .string a.s] #[.int .i64 a.k, .int .i64 a.n, .string a.s] (by rw [World.size_alloc, put8_size]) (by show ¬ w1.heap.size + 1 < w.heap.size; omega) (by omega) rfl
  exact ret8 (enc := valEnc w) (res := M.value S) (S' := S1) (a := (⟨0, M.em, M.em, [a], []⟩ : M.Val)) (res_value (by rfl) ((Below.heap_alloc _ _ _ (by rw [World.size_alloc, put8_size]; omega)).trans ((Below.heap_alloc _ _ _ (by rw [put8_size]; omega)).trans (put8_at hg1 _ _ _ _ _ _ _ _)))) HR.out (((put8_only (o0.trans o1) (Nat.le_refl _) _ _ _ _ _ _ _ _).alloc _).alloc _) (((put8_rd r1 hlt _ _ _ _ _ _ _ _).alloc _).alloc _) ⟨_, _, rfl, hn, StrsAt.nil _ _⟩


theorem value_any (r : Nat) (S : M.St) (w : World) (h : Rd w r S) :
    Calls Tryz.prog 83 #[.pointer (some ⟨r, 0, none⟩)] w (Ends r w (valEnc w) (M.value S)) := by
  cases h1 : S.at M.kIn
  · cases h2 : S.at M.kCall
    · cases h3 : S.at M.kNew
      · cases hop : M.operand S with
        | error f => exact value_bad r S w h h1 h2 h3 f hop
        | ok p =>
          obtain ⟨S1, ak, an, nm4⟩ := p
          by_cases hk : ak = 4
          · subst hk
            cases hd : S1.at (M.ch 46)
            · cases hb : S1.at (M.ch 40)
              · cases har : S1.atArith
                · exact value_moveV r S w h h1 h2 h3 S1 an nm4 hop hd hb har
                · exact value_arithV r S w h h1 h2 h3 S1 an nm4 hop hd hb har
              · exact value_apply r S w h h1 h2 h3 S1 an nm4 hop hd hb
            · exact value_get r S w h h1 h2 h3 S1 an nm4 hop hd
          · cases har : S1.atArith
            · exact value_moveN r S w h h1 h2 h3 S1 _ hop hk har
            · exact value_arithN r S w h h1 h2 h3 S1 _ hop hk har
      · exact value_new r S w h h1 h2 h3
    · exact value_call r S w h h1 h2
  · exact value_in r S w h h1
end Go.Proofs.YtkonkdhoakcmdaaGreatDoor
