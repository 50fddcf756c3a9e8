/-
  The walk of proteanref02.Same over programs that are the same: they are found so. No conditions.
-/
import Derived.Test.YtkonkdhoakcmdaaGreatDoorS5
set_option linter.unusedVariables false
namespace Go.Proofs.YtkonkdhoakcmdaaGreatDoor
open Go.RowKit

theorem sameR0 : SameR 0 := by
  intro w va vb t hk h1 h2
  obtain rfl : t = .nil := len_nil (by have := sz_pos t; omega)
  obtain ⟨cs, ⟨l1, a1, cap1, rfl, g1⟩, row1⟩ := h1
  obtain ⟨ds, ⟨l2, a2, cap2, rfl, g2⟩, row2⟩ := h2
  go_enter Tryz.func24, Tryz.ntmps24
  go_wp2_with fail
  go_loop [5] (fun i => i = .int .i64 0) (fun _ => 0)
  case atStart => rfl
  case round =>
    subst hrel
    go_wp2_with fail
    go_ret
    exact ⟨rfl, Below.refl _ _⟩
theorem sameR : ∀ k, SameR k
  | 0 => sameR0
  | k + 1 => stmtsR_any k (sameR k)

set_option maxRecDepth 8000 in
set_option maxHeartbeats 1600000 in
theorem rsame_eq (w : World) (va vb : Value) (l : List M.Fn) (h1 : ProgAt w NoX va l) (h2 : ProgAt w NoX vb l) :
    Calls Tryz.prog 9 #[.agg #[va], .agg #[vb]] w fun e w' => e = .returned (.bool true) ∧ Below w.heap.size w w' := by
  obtain ⟨cs, ⟨l1, a1, cap1, rfl, g1⟩, row1⟩ := h1
  obtain ⟨ds, ⟨l2, a2, cap2, rfl, g2⟩, row2⟩ := h2
  by_cases h0 : l.length = 0
  · obtain rfl := List.length_eq_zero_iff.1 h0
    go_enter Tryz.func9, Tryz.ntmps9
    go_wp2_with fail
    go_loop [5] (fun i => i = .int .i64 0) (fun _ => 0)
    case atStart => rfl
    case round =>
      subst hrel
      go_wp2_with fail
      go_ret
      exact ⟨rfl, ((Below.refl _ _).alloc (Nat.le_refl _) _).alloc (by simp) _⟩
  · rcases g1 with ⟨g1, _⟩ | ⟨b1, o1, rfl, hlt1, _, hc1⟩
    · exact absurd g1 h0
    rcases g2 with ⟨g2, _⟩ | ⟨b2, o2, rfl, hlt2, _, hc2⟩
    · exact absurd g2 h0
    have hB0 : Below (w.heap.size + 2) ((w.alloc (.cells #[.slice (some ⟨b1, o1, none⟩) l.length cap1] 25)).alloc (.cells #[.slice (some ⟨b2, o2, none⟩) l.length cap2] 25)) ((w.alloc (.cells #[.slice (some ⟨b1, o1, none⟩) l.length cap1] 25)).alloc (.cells #[.slice (some ⟨b2, o2, none⟩) l.length cap2] 25)) := Below.refl _ _
    go_enter Tryz.func9, Tryz.ntmps9
    go_wp2_with fail
    go_loopw [5] (fun i wr => ∃ (j : Nat) (l' : List M.Fn), i = .int .i64 j ∧ j + l'.length = l.length ∧ Below (w.heap.size + 2) ((w.alloc (.cells #[.slice (some ⟨b1, o1, none⟩) l.length cap1] 25)).alloc (.cells #[.slice (some ⟨b2, o2, none⟩) l.length cap2] 25)) wr ∧ FnsAt w NoX (cs.drop (j * 3)) l' ∧ FnsAt w NoX (ds.drop (j * 3)) l') (fun i _ => l.length - (intOf i).toNat)
    case atStart => exact ⟨0, l, rfl, Nat.zero_add _, hB0, by simpa using row1, by simpa using row2⟩
    case round =>
      obtain ⟨j, l', rfl, hj1, hB, r1, r2⟩ := hrel
      have hzz : ((w.alloc (.cells #[.slice (some ⟨b1, o1, none⟩) l.length cap1] 25)).alloc (.cells #[.slice (some ⟨b2, o2, none⟩) l.length cap2] 25)).heap.size = w.heap.size + 2 := by simp only [World.size_alloc]
      have hbz := hB.size
      rw [hzz] at hbz
      have hb : Below w.heap.size w wr := (((Below.refl w.heap.size w).alloc (Nat.le_refl _) _).alloc (by simp) _).trans (hB.mono (by omega))
      have hA1 : wr.heap[w.heap.size]? = some (.cells #[.slice (some ⟨b1, o1, none⟩) l.length cap1] 25) := (hB.block w.heap.size (by omega)).trans ((Below.heap_alloc _ _ _ (by simp)).trans (heap_alloc_new w _))
      have hA2 : wr.heap[w.heap.size + 1]? = some (.cells #[.slice (some ⟨b2, o2, none⟩) l.length cap2] 25) := (hB.block (w.heap.size + 1) (by omega)).trans (by
        have := heap_alloc_new (w.alloc (.cells #[.slice (some ⟨b1, o1, none⟩) l.length cap1] 25)) (.cells #[.slice (some ⟨b2, o2, none⟩) l.length cap2] 25)
        simp only [World.size_alloc] at this; exact this)
      have cA1 := cell0 hA1
      have cA2 := cell0 hA2
      clear hzz
      by_cases hjl : j < l.length
      · cases l' with
        | nil => simp only [List.length_nil] at hj1; omega
        | cons f lr =>
          obtain ⟨vp1, vb1, rest1, e1, gP1, gB1, gN1⟩ := r1
          obtain ⟨vp2, vb2, rest2, e2, gP2, gB2, gN2⟩ := r2
          obtain ⟨f0, f1, f2, fr⟩ := three_cells hc1 e1
          obtain ⟨s0, s1, s2, sr⟩ := three_cells hc2 e2
          have hbc := fun (b o : Nat) (hlt : b < w.heap.size) => hb.cell (p := ⟨b, o, none⟩) hlt
          rw [← hbc b1 _ hlt1] at f0 f1 f2
          rw [← hbc b2 _ hlt2] at s0 s1 s2
          obtain ⟨q3, m3, rfl⟩ := SlAt.form gP1
          obtain ⟨q4, m4, rfl⟩ := SlAt.form gP2
          obtain ⟨q5, m5, rfl⟩ := StmAt.form gB1
          obtain ⟨q6, m6, rfl⟩ := StmAt.form gB2
          have hi1 : (j : Int) < (l.length : Int) := by omega
          have hlw1 : b1 < wr.heap.size := Nat.lt_of_lt_of_le hlt1 hb.size
          have hlw2 : b2 < wr.heap.size := Nat.lt_of_lt_of_le hlt2 hb.size
          clear hbc
          simp only [List.length_cons] at hj1
          go_wp2_with fail
          go_region_held3 (fun w' => w'.cell? ⟨w.heap.size, 0, none⟩ = some (.slice (some ⟨b1, o1, none⟩) l.length cap1) ∧ w'.cell? ⟨w.heap.size + 1, 0, none⟩ = some (.slice (some ⟨b2, o2, none⟩) l.length cap2) ∧ w'.cell? ⟨b1, o1 + j * 3, none⟩ = some (.string f.name) ∧ w'.cell? ⟨b1, o1 + j * 3 + 1, none⟩ = some (.slice q3 f.ps.length m3) ∧ w'.cell? ⟨b1, o1 + j * 3 + 2, none⟩ = some (.slice q5 f.body.len m5) ∧ w'.cell? ⟨b2, o2 + j * 3, none⟩ = some (.string f.name) ∧ w'.cell? ⟨b2, o2 + j * 3 + 1, none⟩ = some (.slice q4 f.ps.length m4) ∧ w'.cell? ⟨b2, o2 + j * 3 + 2, none⟩ = some (.slice q6 f.body.len m6)) (go_keep) (fail)
          · obtain ⟨hn0, hn1, hn2, hn3⟩ := pair_new (wr := wr) (A := (.cells #[.string f.name, .slice q3 f.ps.length m3, .slice q5 f.body.len m5] 56)) (B := (.cells #[.string f.name, .slice q4 f.ps.length m4, .slice q6 f.body.len m6] 56))
            generalize hw4 : ((wr.alloc (.cells #[.string f.name, .slice q3 f.ps.length m3, .slice q5 f.body.len m5] 56)).alloc (.cells #[.string f.name, .slice q4 f.ps.length m4, .slice q6 f.body.len m6] 56)).drew = w4 at hn0 hn1 hn2 hn3 ⊢
            clear hw4
            have hP4 := hn1
            have hQ4 := hn2
            have hb4 : Below w.heap.size w w4 := hb.trans (hn0.mono hb.size)
            have hB4 := hB.trans (hn0.mono hbz)
            clear hn1 hn2 hn3
            obtain ⟨k0, k1, k2, kf, kz⟩ := cells3 hP4
            obtain ⟨l0, l1, l2, lf, lz⟩ := cells3 hQ4
            go_wp2_with fail
            refine (textsB _ _ _ f.ps (SlAt.bel gP1 hb4) (SlAt.bel gP2 hb4)).mono ?_
            rintro e w5 ⟨rfl, hb5⟩
            have hz4 := hB4.size
            have hw5 : Below w.heap.size w w5 := hb4.trans (hb5.mono hb4.size)
            have hB5 := hB4.trans (hb5.mono (by rw [World.size_alloc, World.size_alloc] at hz4; exact hz4))
            have hP5 := (hb5.block _ kz).trans hP4
            have hQ5 := (hb5.block _ lz).trans hQ4
            clear k0 k1 k2 kf l0 l1 l2 lf
            obtain ⟨k0, k1, k2, kf, kz5⟩ := cells3 hP5
            obtain ⟨l0, l1, l2, lf, lz5⟩ := cells3 hQ5
            go_wp2_with fail
            refine (sameR f.body.sz _ _ _ f.body (Nat.le_refl _) (gB1.bel hw5) (gB2.bel hw5)).mono ?_
            rintro e w6 ⟨rfl, hb6⟩
            have hz5 := hB5.size
            have hB6 := hB5.trans (hb6.mono (by rw [World.size_alloc, World.size_alloc] at hz5; exact hz5))
            go_wp2_with fail
            refine ⟨⟨j + 1, lr, by go_num, by omega, hB6, by rw [fr]; exact gN1, by rw [sr]; exact gN2⟩, by simp [intOf]; omega⟩
          · obtain ⟨hn0, hn1, hn2, hn3⟩ := pair_new (wr := wr) (A := (.cells #[.string f.name, .slice q4 f.ps.length m4, .slice q6 f.body.len m6] 56)) (B := (.cells #[.string f.name, .slice q3 f.ps.length m3, .slice q5 f.body.len m5] 56))
            generalize hw4 : ((wr.alloc (.cells #[.string f.name, .slice q4 f.ps.length m4, .slice q6 f.body.len m6] 56)).alloc (.cells #[.string f.name, .slice q3 f.ps.length m3, .slice q5 f.body.len m5] 56)).drew = w4 at hn0 hn1 hn2 hn3 ⊢
            clear hw4
            have hP4 := hn2
            have hQ4 := hn1
            have hb4 : Below w.heap.size w w4 := hb.trans (hn0.mono hb.size)
            have hB4 := hB.trans (hn0.mono hbz)
            clear hn1 hn2 hn3
            obtain ⟨k0, k1, k2, kf, kz⟩ := cells3 hP4
            obtain ⟨l0, l1, l2, lf, lz⟩ := cells3 hQ4
            go_wp2_with fail
            refine (textsB _ _ _ f.ps (SlAt.bel gP1 hb4) (SlAt.bel gP2 hb4)).mono ?_
            rintro e w5 ⟨rfl, hb5⟩
            have hz4 := hB4.size
            have hw5 : Below w.heap.size w w5 := hb4.trans (hb5.mono hb4.size)
            have hB5 := hB4.trans (hb5.mono (by rw [World.size_alloc, World.size_alloc] at hz4; exact hz4))
            have hP5 := (hb5.block _ kz).trans hP4
            have hQ5 := (hb5.block _ lz).trans hQ4
            clear k0 k1 k2 kf l0 l1 l2 lf
            obtain ⟨k0, k1, k2, kf, kz5⟩ := cells3 hP5
            obtain ⟨l0, l1, l2, lf, lz5⟩ := cells3 hQ5
            go_wp2_with fail
            refine (sameR f.body.sz _ _ _ f.body (Nat.le_refl _) (gB1.bel hw5) (gB2.bel hw5)).mono ?_
            rintro e w6 ⟨rfl, hb6⟩
            have hz5 := hB5.size
            have hB6 := hB5.trans (hb6.mono (by rw [World.size_alloc, World.size_alloc] at hz5; exact hz5))
            go_wp2_with fail
            refine ⟨⟨j + 1, lr, by go_num, by omega, hB6, by rw [fr]; exact gN1, by rw [sr]; exact gN2⟩, by simp [intOf]; omega⟩
      · obtain rfl : l' = [] := List.length_eq_zero_iff.1 (by omega)
        go_wp2_with fail
        go_ret
        exact ⟨rfl, hb⟩
end Go.Proofs.YtkonkdhoakcmdaaGreatDoor
