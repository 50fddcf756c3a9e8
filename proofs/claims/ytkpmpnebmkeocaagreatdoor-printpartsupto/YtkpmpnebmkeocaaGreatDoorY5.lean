/-
  The walks of a layer's list, over each of the three closures that are handed to it: items parted by commas. Conditions: what the closure lays at one item.
-/
import Derived.Test.YtkpmpnebmkeocaaGreatDoorY4
set_option linter.unusedVariables false
set_option linter.unusedSimpArgs false
namespace Go.Proofs.YtkpmpnebmkeocaaGreatDoor
open Go.RowKit

def restL (item : Nat → List ByteArray) (n j : Nat) : List ByteArray := if j = 0 then M.laidSeq ((List.range' 0 n).map item) else M.laidMore ((List.range' j (n - j)).map item)
theorem restL_step {item : Nat → List ByteArray} {n j : Nat} (hj : j < n) : restL item n j = (if 0 < j then [M.ch 44] else []) ++ (item j ++ restL item n (j + 1)) := by
  unfold restL
  rw [if_neg (show ¬ j + 1 = 0 by omega)]
  by_cases h : j = 0
  · subst h
    rw [if_pos rfl, if_neg (by omega)]
    obtain ⟨m, rfl⟩ : ∃ m, n = m + 1 := ⟨n - 1, by omega⟩
    rw [List.range'_succ, List.map_cons]
    rfl
  · rw [if_neg h, if_pos (by omega)]
    obtain ⟨m, hm⟩ : ∃ m, n - j = m + 1 := ⟨n - j - 1, by omega⟩
    rw [hm, show n - (j + 1) = m by omega, List.range'_succ, List.map_cons]
    simp [M.laidMore]
theorem restL_end {item : Nat → List ByteArray} {n j : Nat} (hj : n ≤ j) : restL item n j = [] := by
  unfold restL
  by_cases h : j = 0
  · rw [if_pos h]
    obtain rfl : n = 0 := by omega
    rfl
  · rw [if_neg h, show n - j = 0 by omega]; rfl
def Stays (B : Nat) (I : (Nat → Prop) → World → Prop) : Prop := ∀ X X' w w', I X w → Turn X w w' → (∀ k, X' k → X k ∨ w.heap.size ≤ k) → (∀ k, X k → B ≤ k) → I X' w'

set_option maxRecDepth 8000 in
set_option maxHeartbeats 2000000 in
theorem llist_fun (B L n : Nat) (c1 c2 : Value) (item : Nat → List ByteArray) (I : (Nat → Prop) → World → Prop) (hI : Stays B I) (hn : n ≤ 4398046511104)
    (hitem : ∀ (i : Nat) X w s, i < n → Lay B w X L s → I X w → Calls Tryz.prog 75 #[.int .i64 (i : Nat), c1, c2] w (LayE B X L w (M.putsM s (item i))))
    (X : Nat → Prop) (w : World) (s : Option (List UInt8)) (h : Lay B w X L s) (hi : I X w) :
    Calls Tryz.prog 74 #[.pointer (some ⟨L, 0, none⟩), .int .i64 (n : Nat), .func (.func 75) #[] #[c1, c2]] w (LayE B X L w (M.putsM s (restL item n 0))) := by
  go_enter Tryz.func74, Tryz.ntmps74
  go_wp2_with fail
  go_loopw [6] (fun i wr => ∃ (j : Nat) (s' : Option (List UInt8)) (X' : Nat → Prop), i = .int .i64 j ∧ j ≤ n ∧ Lay B wr X' L s' ∧ I X' wr ∧ (Turn X w wr ∧ ∀ k, X' k → X k ∨ w.heap.size ≤ k) ∧ Hid (M.putsM s (restL item n 0) = M.putsM s' (restL item n j))) (fun i _ => n - (intOf i).toNat)
  case atStart => exact ⟨0, s, X, rfl, Nat.zero_le _, h, hi, ⟨Turn.refl _ _, fun k hk => .inl hk⟩, rfl⟩
  case round =>
    obtain ⟨j, s', X', rfl, hj, h', hi', ⟨ht, hx⟩, HP⟩ := hrel
    have hL := h'
    obtain ⟨hX, hf, tb, v, mw, mo, bs, q1, q2, q3, q6, q7, q8, q9⟩ := h'
    obtain ⟨va, vc, rfl⟩ := own_form q8
    obtain ⟨d0, d1, d2, d3, df, dz⟩ := cells4 q1
    by_cases hjl : j < n
    · have hji : (j : Int) < (n : Int) := by omega
      cases s' with
      | none =>
        simp only [Option.isNone_none] at d1
        have HE : Hid (M.putsM s (restL item n 0) = none) := by unfold Hid; rw [HP.out, M.putsM_none]
        go_wp2_with fail
        go_end0
        exact ⟨rfl, by rw [HE.out]; exact ⟨X', hL, ht, hx⟩⟩
      | some b0 =>
        simp only [Option.isNone_some] at d1
        have HS : Hid (restL item n j = (if 0 < j then [M.ch 44] else []) ++ (item j ++ restL item n (j + 1))) := restL_step hjl
        by_cases hj0 : 0 < j
        · have hj0i : (0 : Int) < (j : Int) := by omega
          rw [if_pos hj0] at HS
          go_wp2_with (go_at_call 43; refine stopHere ?_)
          refine stopAt ?_
          refine (put_new B wr X' L _ [M.ch 44] hL (by simp)).mono ?_
          rintro e w1 ⟨rfl, X1, l1, t1, x1⟩
          have i1 := hI X' X1 wr w1 hi' t1 x1 (fun k hk => (hf k hk).1)
          clear d0 d1 d2 d3 df
          go_wp2_with (go_at_call 75; refine stopHere ?_)
          refine stopAt ?_
          refine (hitem j X1 w1 _ hjl l1 i1).mono ?_
          rintro e w2 ⟨rfl, X2, l2, t2, x2⟩
          have i2 := hI X1 X2 w1 w2 i1 t2 x2 (fun k hk => (l1.far k hk).1)
          go_wp2_with fail
          obtain ⟨X3, m1, m2, m3⟩ := LayR.next ht hx (LayR.next t1 x1 ⟨X2, l2, t2, x2⟩)
          refine ⟨⟨j + 1, _, X2, by go_num, by omega, l2, i2, ⟨(ht.next hx t1).next (fun k hk => ?_) t2, fun k hk => ?_⟩, ?_⟩, by simp [intOf]; omega⟩
          · rcases x1 k hk with h | h
            · exact hx k h
            · exact .inr (Nat.le_trans ht.size h)
          · rcases x2 k hk with h | h
            · rcases x1 k h with h | h
              · exact hx k h
              · exact .inr (Nat.le_trans ht.size h)
            · exact .inr (Nat.le_trans (Nat.le_trans ht.size t1.size) h)
          · unfold Hid
            rw [HP.out, HS.out, M.putsM_app, M.putsM_app]
        · have hj0i : ¬ (0 : Int) < (j : Int) := by omega
          rw [if_neg hj0] at HS
          clear d0 d2 d3 df
          go_wp2_with (go_at_call 75; refine stopHere ?_)
          refine stopAt ?_
          refine (hitem j X' wr _ hjl hL hi').mono ?_
          rintro e w2 ⟨rfl, X2, l2, t2, x2⟩
          have i2 := hI X' X2 wr w2 hi' t2 x2 (fun k hk => (hf k hk).1)
          clear d1
          go_wp2_with fail
          refine ⟨⟨j + 1, _, X2, by go_num, by omega, l2, i2, ⟨ht.next hx t2, fun k hk => ?_⟩, ?_⟩, by simp [intOf]; omega⟩
          · rcases x2 k hk with h | h
            · exact hx k h
            · exact .inr (Nat.le_trans ht.size h)
          · unfold Hid
            rw [HP.out, HS.out, List.nil_append, M.putsM_app]
    · have hjn : ¬ (j : Int) < (n : Int) := by omega
      have HE : Hid (M.putsM s (restL item n 0) = s') := by unfold Hid; rw [HP.out, restL_end (by omega)]; rfl
      go_wp2_with fail
      go_end0
      exact ⟨rfl, by rw [HE.out]; exact ⟨X', hL, ht, hx⟩⟩

set_option maxRecDepth 8000 in
set_option maxHeartbeats 2000000 in
theorem llist_obj (B L n : Nat) (c1 c2 : Value) (item : Nat → List ByteArray) (I : (Nat → Prop) → World → Prop) (hI : Stays B I) (hn : n ≤ 4398046511104)
    (hitem : ∀ (i : Nat) X w s, i < n → Lay B w X L s → I X w → Calls Tryz.prog 88 #[.int .i64 (i : Nat), c1, c2] w (LayE B X L w (M.putsM s (item i))))
    (X : Nat → Prop) (w : World) (s : Option (List UInt8)) (h : Lay B w X L s) (hi : I X w) :
    Calls Tryz.prog 74 #[.pointer (some ⟨L, 0, none⟩), .int .i64 (n : Nat), .func (.func 88) #[] #[c1, c2]] w (LayE B X L w (M.putsM s (restL item n 0))) := by
  go_enter Tryz.func74, Tryz.ntmps74
  go_wp2_with fail
  go_loopw [6] (fun i wr => ∃ (j : Nat) (s' : Option (List UInt8)) (X' : Nat → Prop), i = .int .i64 j ∧ j ≤ n ∧ Lay B wr X' L s' ∧ I X' wr ∧ (Turn X w wr ∧ ∀ k, X' k → X k ∨ w.heap.size ≤ k) ∧ Hid (M.putsM s (restL item n 0) = M.putsM s' (restL item n j))) (fun i _ => n - (intOf i).toNat)
  case atStart => exact ⟨0, s, X, rfl, Nat.zero_le _, h, hi, ⟨Turn.refl _ _, fun k hk => .inl hk⟩, rfl⟩
  case round =>
    obtain ⟨j, s', X', rfl, hj, h', hi', ⟨ht, hx⟩, HP⟩ := hrel
    have hL := h'
    obtain ⟨hX, hf, tb, v, mw, mo, bs, q1, q2, q3, q6, q7, q8, q9⟩ := h'
    obtain ⟨va, vc, rfl⟩ := own_form q8
    obtain ⟨d0, d1, d2, d3, df, dz⟩ := cells4 q1
    by_cases hjl : j < n
    · have hji : (j : Int) < (n : Int) := by omega
      cases s' with
      | none =>
        simp only [Option.isNone_none] at d1
        have HE : Hid (M.putsM s (restL item n 0) = none) := by unfold Hid; rw [HP.out, M.putsM_none]
        go_wp2_with fail
        go_end0
        exact ⟨rfl, by rw [HE.out]; exact ⟨X', hL, ht, hx⟩⟩
      | some b0 =>
        simp only [Option.isNone_some] at d1
        have HS : Hid (restL item n j = (if 0 < j then [M.ch 44] else []) ++ (item j ++ restL item n (j + 1))) := restL_step hjl
        by_cases hj0 : 0 < j
        · have hj0i : (0 : Int) < (j : Int) := by omega
          rw [if_pos hj0] at HS
          go_wp2_with (go_at_call 43; refine stopHere ?_)
          refine stopAt ?_
          refine (put_new B wr X' L _ [M.ch 44] hL (by simp)).mono ?_
          rintro e w1 ⟨rfl, X1, l1, t1, x1⟩
          have i1 := hI X' X1 wr w1 hi' t1 x1 (fun k hk => (hf k hk).1)
          clear d0 d1 d2 d3 df
          go_wp2_with (go_at_call 88; refine stopHere ?_)
          refine stopAt ?_
          refine (hitem j X1 w1 _ hjl l1 i1).mono ?_
          rintro e w2 ⟨rfl, X2, l2, t2, x2⟩
          have i2 := hI X1 X2 w1 w2 i1 t2 x2 (fun k hk => (l1.far k hk).1)
          go_wp2_with fail
          obtain ⟨X3, m1, m2, m3⟩ := LayR.next ht hx (LayR.next t1 x1 ⟨X2, l2, t2, x2⟩)
          refine ⟨⟨j + 1, _, X2, by go_num, by omega, l2, i2, ⟨(ht.next hx t1).next (fun k hk => ?_) t2, fun k hk => ?_⟩, ?_⟩, by simp [intOf]; omega⟩
          · rcases x1 k hk with h | h
            · exact hx k h
            · exact .inr (Nat.le_trans ht.size h)
          · rcases x2 k hk with h | h
            · rcases x1 k h with h | h
              · exact hx k h
              · exact .inr (Nat.le_trans ht.size h)
            · exact .inr (Nat.le_trans (Nat.le_trans ht.size t1.size) h)
          · unfold Hid
            rw [HP.out, HS.out, M.putsM_app, M.putsM_app]
        · have hj0i : ¬ (0 : Int) < (j : Int) := by omega
          rw [if_neg hj0] at HS
          clear d0 d2 d3 df
          go_wp2_with (go_at_call 88; refine stopHere ?_)
          refine stopAt ?_
          refine (hitem j X' wr _ hjl hL hi').mono ?_
          rintro e w2 ⟨rfl, X2, l2, t2, x2⟩
          have i2 := hI X' X2 wr w2 hi' t2 x2 (fun k hk => (hf k hk).1)
          clear d1
          go_wp2_with fail
          refine ⟨⟨j + 1, _, X2, by go_num, by omega, l2, i2, ⟨ht.next hx t2, fun k hk => ?_⟩, ?_⟩, by simp [intOf]; omega⟩
          · rcases x2 k hk with h | h
            · exact hx k h
            · exact .inr (Nat.le_trans ht.size h)
          · unfold Hid
            rw [HP.out, HS.out, List.nil_append, M.putsM_app]
    · have hjn : ¬ (j : Int) < (n : Int) := by omega
      have HE : Hid (M.putsM s (restL item n 0) = s') := by unfold Hid; rw [HP.out, restL_end (by omega)]; rfl
      go_wp2_with fail
      go_end0
      exact ⟨rfl, by rw [HE.out]; exact ⟨X', hL, ht, hx⟩⟩

set_option maxRecDepth 8000 in
set_option maxHeartbeats 2000000 in
theorem llist_arg (B L n : Nat) (c1 c2 : Value) (item : Nat → List ByteArray) (I : (Nat → Prop) → World → Prop) (hI : Stays B I) (hn : n ≤ 4398046511104)
    (hitem : ∀ (i : Nat) X w s, i < n → Lay B w X L s → I X w → Calls Tryz.prog 89 #[.int .i64 (i : Nat), c1, c2] w (LayE B X L w (M.putsM s (item i))))
    (X : Nat → Prop) (w : World) (s : Option (List UInt8)) (h : Lay B w X L s) (hi : I X w) :
    Calls Tryz.prog 74 #[.pointer (some ⟨L, 0, none⟩), .int .i64 (n : Nat), .func (.func 89) #[] #[c1, c2]] w (LayE B X L w (M.putsM s (restL item n 0))) := by
  go_enter Tryz.func74, Tryz.ntmps74
  go_wp2_with fail
  go_loopw [6] (fun i wr => ∃ (j : Nat) (s' : Option (List UInt8)) (X' : Nat → Prop), i = .int .i64 j ∧ j ≤ n ∧ Lay B wr X' L s' ∧ I X' wr ∧ (Turn X w wr ∧ ∀ k, X' k → X k ∨ w.heap.size ≤ k) ∧ Hid (M.putsM s (restL item n 0) = M.putsM s' (restL item n j))) (fun i _ => n - (intOf i).toNat)
  case atStart => exact ⟨0, s, X, rfl, Nat.zero_le _, h, hi, ⟨Turn.refl _ _, fun k hk => .inl hk⟩, rfl⟩
  case round =>
    obtain ⟨j, s', X', rfl, hj, h', hi', ⟨ht, hx⟩, HP⟩ := hrel
    have hL := h'
    obtain ⟨hX, hf, tb, v, mw, mo, bs, q1, q2, q3, q6, q7, q8, q9⟩ := h'
    obtain ⟨va, vc, rfl⟩ := own_form q8
    obtain ⟨d0, d1, d2, d3, df, dz⟩ := cells4 q1
    by_cases hjl : j < n
    · have hji : (j : Int) < (n : Int) := by omega
      cases s' with
      | none =>
        simp only [Option.isNone_none] at d1
        have HE : Hid (M.putsM s (restL item n 0) = none) := by unfold Hid; rw [HP.out, M.putsM_none]
        go_wp2_with fail
        go_end0
        exact ⟨rfl, by rw [HE.out]; exact ⟨X', hL, ht, hx⟩⟩
      | some b0 =>
        simp only [Option.isNone_some] at d1
        have HS : Hid (restL item n j = (if 0 < j then [M.ch 44] else []) ++ (item j ++ restL item n (j + 1))) := restL_step hjl
        by_cases hj0 : 0 < j
        · have hj0i : (0 : Int) < (j : Int) := by omega
          rw [if_pos hj0] at HS
          go_wp2_with (go_at_call 43; refine stopHere ?_)
          refine stopAt ?_
          refine (put_new B wr X' L _ [M.ch 44] hL (by simp)).mono ?_
          rintro e w1 ⟨rfl, X1, l1, t1, x1⟩
          have i1 := hI X' X1 wr w1 hi' t1 x1 (fun k hk => (hf k hk).1)
          clear d0 d1 d2 d3 df
          go_wp2_with (go_at_call 89; refine stopHere ?_)
          refine stopAt ?_
          refine (hitem j X1 w1 _ hjl l1 i1).mono ?_
          rintro e w2 ⟨rfl, X2, l2, t2, x2⟩
          have i2 := hI X1 X2 w1 w2 i1 t2 x2 (fun k hk => (l1.far k hk).1)
          go_wp2_with fail
          obtain ⟨X3, m1, m2, m3⟩ := LayR.next ht hx (LayR.next t1 x1 ⟨X2, l2, t2, x2⟩)
          refine ⟨⟨j + 1, _, X2, by go_num, by omega, l2, i2, ⟨(ht.next hx t1).next (fun k hk => ?_) t2, fun k hk => ?_⟩, ?_⟩, by simp [intOf]; omega⟩
          · rcases x1 k hk with h | h
            · exact hx k h
            · exact .inr (Nat.le_trans ht.size h)
          · rcases x2 k hk with h | h
            · rcases x1 k h with h | h
              · exact hx k h
              · exact .inr (Nat.le_trans ht.size h)
            · exact .inr (Nat.le_trans (Nat.le_trans ht.size t1.size) h)
          · unfold Hid
            rw [HP.out, HS.out, M.putsM_app, M.putsM_app]
        · have hj0i : ¬ (0 : Int) < (j : Int) := by omega
          rw [if_neg hj0] at HS
          clear d0 d2 d3 df
          go_wp2_with (go_at_call 89; refine stopHere ?_)
          refine stopAt ?_
          refine (hitem j X' wr _ hjl hL hi').mono ?_
          rintro e w2 ⟨rfl, X2, l2, t2, x2⟩
          have i2 := hI X' X2 wr w2 hi' t2 x2 (fun k hk => (hf k hk).1)
          clear d1
          go_wp2_with fail
          refine ⟨⟨j + 1, _, X2, by go_num, by omega, l2, i2, ⟨ht.next hx t2, fun k hk => ?_⟩, ?_⟩, by simp [intOf]; omega⟩
          · rcases x2 k hk with h | h
            · exact hx k h
            · exact .inr (Nat.le_trans ht.size h)
          · unfold Hid
            rw [HP.out, HS.out, List.nil_append, M.putsM_app]
    · have hjn : ¬ (j : Int) < (n : Int) := by omega
      have HE : Hid (M.putsM s (restL item n 0) = s') := by unfold Hid; rw [HP.out, restL_end (by omega)]; rfl
      go_wp2_with fail
      go_end0
      exact ⟨rfl, by rw [HE.out]; exact ⟨X', hL, ht, hx⟩⟩

end Go.Proofs.YtkpmpnebmkeocaaGreatDoor
