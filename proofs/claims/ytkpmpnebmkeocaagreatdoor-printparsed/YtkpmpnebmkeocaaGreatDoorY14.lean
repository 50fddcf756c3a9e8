/-
  The walk of the law PrintParsed: what is parsed may be printed; printed, parsed and printed again it is the same text. Conditions: that the table of powers lies as it should.
-/
import Derived.Test.YtkpmpnebmkeocaaGreatDoorY13
import Derived.Test.YtkpmpnebmkeocaaGreatDoorSC
set_option linter.unusedVariables false
set_option linter.unusedSimpArgs false
namespace Go.Proofs.YtkpmpnebmkeocaaGreatDoor
open Go.RowKit

theorem rOpd_in {o : M.Opd} (h : M.rOpd o) : InI o.n := by
  rcases h with (rfl | rfl | rfl) | ⟨_, h0, h1, _⟩ | ⟨_, h0, _⟩
  · exact ⟨by decide, by decide⟩
  · exact ⟨by decide, by decide⟩
  · exact ⟨by decide, by decide⟩
  · exact ⟨by omega, by omega⟩
  · exact ⟨by omega, by omega⟩
theorem rVal_ops {op : Int} {y p : ByteArray} {a : List M.Opd} {pr : List ByteArray} (hv : M.rVal op y p a pr) : ∀ o ∈ a, M.rOpd o := by
  rcases hv with ⟨rfl, rfl, rfl, rfl, o, rfl, ho⟩ | ⟨rfl, rfl, hp, rfl, o, q, rfl, ho, hq⟩ | ⟨rfl, hy, hp, rfl, rfl⟩ | ⟨rfl, rfl, rfl, hpr, l, o, rfl, hl, hq, ho⟩ | ⟨rfl, rfl, hp, rfl, ha⟩ | ⟨rfl, hy, rfl, rfl, ha⟩ | ⟨rfl, rfl, rfl, rfl, rfl⟩
  · intro x hx; simp only [List.mem_singleton] at hx; subst hx; exact ho
  · intro x hx; simp only [List.mem_cons, List.not_mem_nil, or_false] at hx; rcases hx with rfl | rfl; exact ho; exact hq
  · intro x hx; cases hx
  · intro x hx
    rcases List.mem_append.1 hx with h | h
    · exact hq x h
    · simp only [List.mem_singleton] at h; subst h; exact ho
  · exact ha
  · exact ha
  · intro x hx; cases hx
theorem one_ops {a : List M.Opd} (h : ∃ o, a = [o] ∧ M.rOpd o) : ∀ o ∈ a, M.rOpd o := by
  obtain ⟨o, rfl, ho⟩ := h
  intro x hx; simp only [List.mem_singleton] at hx; subst hx; exact ho
theorem rng_of_rTr : ∀ (t : M.Tr) (k : Nat), M.rTr t k → RngT t
  | .nil, _, _ => trivial
  | .cons op x y p a pr th el nx, k, ⟨hs, hnx⟩ => by
    refine ⟨fun o ho => rOpd_in ?_, ?_, ?_, rng_of_rTr nx k hnx⟩
    · rcases hs with ⟨hp, rfl, rfl⟩ | ⟨hop, rfl, rfl, rfl, rfl, h1, hk, hth, hel⟩
      · rcases hp with ⟨hx, hv⟩ | ⟨rfl, hx, rfl, hp, rfl, h1⟩ | ⟨hop, rfl, rfl, rfl, rfl, h1⟩
        · exact rVal_ops hv o ho
        · exact one_ops h1 o ho
        · exact one_ops h1 o ho
      · exact one_ops h1 o ho
    · rcases hs with ⟨hp, rfl, rfl⟩ | ⟨hop, rfl, rfl, rfl, rfl, h1, hk, hth, hel⟩
      · exact trivial
      · exact rng_of_rTr th _ hth
    · rcases hs with ⟨hp, rfl, rfl⟩ | ⟨hop, rfl, rfl, rfl, rfl, h1, hk, hth, hel⟩
      · exact trivial
      · exact rng_of_rTr el _ hel
theorem rng_of_rProg {p : List M.Fn} (h : M.rProg p) : RngP p := fun f hf => rng_of_rTr f.body 31 (h.fns f hf).2.2
theorem pr_yes {p : List M.Fn} (h : M.rProg p) (hl : (M.text p).length ≤ 65536) : prT p = ⟨(M.text p).toArray⟩ ∧ prB p = true := by
  unfold prT prB
  rw [M.printed_yes h hl]
  exact ⟨rfl, rfl⟩
theorem parseR_text {p : List M.Fn} (h : M.rProg p) (hl : (M.text p).length ≤ 65536) : M.parseR (M.text p) = (p, (0, 0)) := by rw [parseR_eq, M.parse_text h hl]
namespace PrintParsed
set_option maxRecDepth 8000 in
set_option maxHeartbeats 4000000 in
theorem walk (s : ByteArray) (w : World) (hs : s.size ≤ maxLen) (htab : TabW w) :
    Calls Tryz.prog 6 #[.string s] w fun e w' => e = .returned (.bool true) ∧ Below w.heap.size w w' := by
  go_enter Tryz.func6, Tryz.ntmps6
  go_wp2_with (go_at_call 17; refine stopHere ?_)
  refine stopAt ?_
  cases hps : M.parse s.data.toList with
  | error f =>
    obtain ⟨fc, fa⟩ := f
    have hfz : fc ≠ 0 := M.parse_nz _ _ hps
    have hR : M.parseR s.data.toList = ([], (fc, fa)) := by rw [parseR_eq, hps]
    have hfb : (fc == 0) = false := by simpa using hfz
    have hfd : decide (fc = 0) = false := decide_eq_false hfz
    have hfn : (fc != 0) = true := by simpa using hfz
    refine (rparseC s _ _ _ w hs rfl hR).mono ?_
    rintro e w1 ⟨hb1, a1, c1, rfl, hP1⟩
    simp only [List.length_nil]
    have hb2 : Below w1.heap.size w1 ((w1.alloc (.cells #[.slice a1 0 c1] 24)).alloc (.cells #[.int .i64 fc, .int .i64 fa] 39)) := ((Below.refl _ _).alloc (Nat.le_refl _) _).alloc (by simp) _
    have e1 : ((w1.alloc (.cells #[.slice a1 0 c1] 24)).alloc (.cells #[.int .i64 fc, .int .i64 fa] 39)).heap[w1.heap.size + 1]? = some (.cells #[.int .i64 fc, .int .i64 fa] 39 (0, 0)) := by
      have := heap_alloc_new (w1.alloc (.cells #[.slice a1 0 c1] 24)) (.cells #[.int .i64 fc, .int .i64 fa] 39)
      rw [World.size_alloc] at this; exact this
    have HB := hid hb2
    have HE := hid e1
    clear hb2 e1
    go_wp2_with (go_at_call 10; refine stopHere ?_)
    refine stopAt ?_
    refine (fixed_any _ ((htab.below hb1).below HB.out)).mono ?_
    rintro e w2 ⟨rfl, hb3⟩
    have B1 := hb1.trans (HB.out.mono hb1.size)
    have B2 := B1.trans (hb3.mono B1.size)
    have c1' := kept hb3 HE.out
    have d0 : w2.cell? ⟨w1.heap.size + 1, 0, none⟩ = some (.int .i64 fc) := by rw [Lib.cell_of_heap c1']; rfl
    go_wp2_with (go_at_call 10; refine stopHere ?_)
    refine stopAt ?_
    refine (fixed_any _ (((htab.below hb1).below HB.out).below hb3)).mono ?_
    rintro e w3 ⟨rfl, hb4⟩
    go_wp2_with fail
    go_ret
    exact ⟨rfl, B2.trans (hb4.mono B2.size)⟩
  | ok p =>
    obtain ⟨hrp, hlen⟩ := M.parse_right hps
    have hR : M.parseR s.data.toList = (p, (0, 0)) := by rw [parseR_eq, hps]
    refine (rparseC s _ _ _ w hs rfl hR).mono ?_
    rintro e w1 ⟨hb1, a1, c1, rfl, hP1⟩
    have hb2 : Below w1.heap.size w1 ((w1.alloc (.cells #[.slice a1 p.length c1] 24)).alloc (.cells #[.int .i64 0, .int .i64 0] 39)) := ((Below.refl _ _).alloc (Nat.le_refl _) _).alloc (by simp) _
    have e0 : ((w1.alloc (.cells #[.slice a1 p.length c1] 24)).alloc (.cells #[.int .i64 0, .int .i64 0] 39)).heap[w1.heap.size]? = some (.cells #[.slice a1 p.length c1] 24 (0, 0)) := heap_al (heap_alloc_new w1 _)
    have e1 : ((w1.alloc (.cells #[.slice a1 p.length c1] 24)).alloc (.cells #[.int .i64 0, .int .i64 0] 39)).heap[w1.heap.size + 1]? = some (.cells #[.int .i64 0, .int .i64 0] 39 (0, 0)) := by
      have := heap_alloc_new (w1.alloc (.cells #[.slice a1 p.length c1] 24)) (.cells #[.int .i64 0, .int .i64 0] 39)
      rw [World.size_alloc] at this; exact this
    have HB := hid hb2
    have HE := hid e1
    have HE0 := hid e0
    clear hb2 e1 e0
    go_wp2_with (go_at_call 10; refine stopHere ?_)
    refine stopAt ?_
    refine (fixed_any _ ((htab.below hb1).below HB.out)).mono ?_
    rintro e w2 ⟨rfl, hb3⟩
    have ht2 := ((htab.below hb1).below HB.out).below hb3
    have B1 := hb1.trans (HB.out.mono hb1.size)
    have B2 := B1.trans (hb3.mono B1.size)
    have c0' := kept hb3 HE0.out
    have c1' := kept hb3 HE.out
    have d0 : w2.cell? ⟨w1.heap.size + 1, 0, none⟩ = some (.int .i64 0) := by rw [Lib.cell_of_heap c1']; rfl
    have k0 := cell0 c0'
    have hP2 := (hP1.keep (Below.keepX HB.out)).keep (Below.keepX hb3)
    clear HB HE HE0
    by_cases hbig : 10000 < s.size
    · have hbi : (10000 : Int) < (s.size : Int) := by omega
      go_wp2_with (go_at_call 10; refine stopHere ?_)
      refine stopAt ?_
      refine (fixed_any _ ht2).mono ?_
      rintro e w3 ⟨rfl, hb4⟩
      go_wp2_with fail
      go_ret
      exact ⟨rfl, B2.trans (hb4.mono B2.size)⟩
    · have hbi : ¬ (10000 : Int) < (s.size : Int) := by omega
      have hsl : s.data.toList.length = s.size := by rw [Array.length_toList]; rfl
      have hl : (M.text p).length ≤ 65536 := by omega
      obtain ⟨hT, hBl⟩ := pr_yes hrp hl
      have hrg := rng_of_rProg hrp
      have hTs : (⟨(M.text p).toArray⟩ : ByteArray).size ≤ maxLen := by show (M.text p).toArray.size ≤ maxLen; rw [List.size_toArray]; unfold maxLen; omega
      have HPT := hid (parseR_text hrp hl)
      clear hsl hl hlen
      go_wp2_with (go_at_call 13; refine stopHere ?_)
      refine stopAt ?_
      refine (pprogram_any w2 _ p hP2 hrg ht2).mono ?_
      rintro e w3 ⟨rfl, hb4⟩
      rw [hT]
      have B3 := B2.trans (hb4.mono B2.size)
      have ht3 := ht2.below hb4
      have c03 := kept hb4 c0'
      have hP3 := hP2.keep (Below.keepX hb4)
      clear k0 d0
      go_wp2_with (go_at_call 17; refine stopHere ?_)
      refine stopAt ?_
      refine (rparseC _ _ _ _ w3 hTs (by simp) HPT.out).mono ?_
      rintro e w4 ⟨hb5, a2, c2, rfl, hQ4⟩
      have B4 := B3.trans (hb5.mono B3.size)
      have ht4 := ht3.below hb5
      have c04 := kept hb5 c03
      have hP4 := hP3.keep (Below.keepX hb5)
      have hb6 : Below w4.heap.size w4 ((w4.alloc (.cells #[.slice a2 p.length c2] 24)).alloc (.cells #[.int .i64 0, .int .i64 0] 39)) := ((Below.refl _ _).alloc (Nat.le_refl _) _).alloc (by simp) _
      have g0 : ((w4.alloc (.cells #[.slice a2 p.length c2] 24)).alloc (.cells #[.int .i64 0, .int .i64 0] 39)).heap[w4.heap.size]? = some (.cells #[.slice a2 p.length c2] 24 (0, 0)) := heap_al (heap_alloc_new w4 _)
      have g1 : ((w4.alloc (.cells #[.slice a2 p.length c2] 24)).alloc (.cells #[.int .i64 0, .int .i64 0] 39)).heap[w4.heap.size + 1]? = some (.cells #[.int .i64 0, .int .i64 0] 39 (0, 0)) := by
        have := heap_alloc_new (w4.alloc (.cells #[.slice a2 p.length c2] 24)) (.cells #[.int .i64 0, .int .i64 0] 39)
        rw [World.size_alloc] at this; exact this
      have HB := hid hb6
      have HG0 := hid g0
      have HG1 := hid g1
      have k4 := cell0 c04
      have hlt4 : w1.heap.size < w4.heap.size := (Array.getElem?_eq_some_iff.1 c04).1
      have hlt5 : w1.heap.size < w4.heap.size + 1 := by omega
      clear hb6 g0 g1
      go_wp2_with (go_at_call 11; refine stopHere ?_)
      refine stopAt ?_
      refine (pmay_any _ _ p (hP4.keep (Below.keepX HB.out)) hrg (ht4.below HB.out)).mono ?_
      rintro e w5 ⟨rfl, hb7⟩
      rw [hBl]
      have B5 := (B4.trans (HB.out.mono B4.size)).trans (hb7.mono (B4.trans (HB.out.mono B4.size)).size)
      have ht5 := (ht4.below HB.out).below hb7
      have c05 := kept hb7 (kept HB.out c04)
      have c15 := kept hb7 HG0.out
      have c25 := kept hb7 HG1.out
      have hP5 := (hP4.keep (Below.keepX HB.out)).keep (Below.keepX hb7)
      have hQ5 := (hQ4.keep (Below.keepX HB.out)).keep (Below.keepX hb7)
      have d5 : w5.cell? ⟨w4.heap.size + 1, 0, none⟩ = some (.int .i64 0) := by rw [Lib.cell_of_heap c25]; rfl
      have k5 := cell0 c15
      clear k4 HB HG0 HG1
      go_wp2_with (go_at_call 13; refine stopHere ?_)
      refine stopAt ?_
      refine (pprogram_any w5 _ p hQ5 hrg ht5).mono ?_
      rintro e w6 ⟨rfl, hb8⟩
      rw [hT]
      have B6 := B5.trans (hb8.mono B5.size)
      have j0 := cell0 (kept hb8 c05)
      have j1 := cell0 (kept hb8 c15)
      have hP6 := hP5.keep (Below.keepX hb8)
      have hQ6 := hQ5.keep (Below.keepX hb8)
      clear d5 k5
      go_wp2_with (go_at_call 18; refine stopHere ?_)
      refine stopAt ?_
      refine (rsame_any w6 _ _ p p hP6 hQ6).mono ?_
      rintro e w7 ⟨rfl, hb9⟩
      have hpp : decide (p = p) = true := decide_eq_true rfl
      rw [hpp]
      go_wp2_with fail
      go_ret
      exact ⟨rfl, B6.trans (hb9.mono B6.size)⟩
end PrintParsed
end Go.Proofs.YtkpmpnebmkeocaaGreatDoor
