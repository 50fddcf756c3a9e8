/-
  The walk of the statements' fixed calls: they are answered as the document says, whatever is in memory. Conditions: that the table of powers lies as it should.
-/
import Derived.Test.YtkpmpnebmkeocaaGreatDoorY12
import Derived.Test.YtkpmpnebmkeocaaGreatDoorTF
import Derived.KernelRfl
set_option linter.unusedVariables false
set_option linter.unusedSimpArgs false
namespace Go.Proofs.YtkpmpnebmkeocaaGreatDoor
open Go.RowKit

def fxP : List M.Fn := [⟨M.ch 102, [M.ch 97], .cons 2 (M.ch 120) (M.ch 97) (M.ch 112) [] [] .nil .nil .nil⟩]
theorem fx1 : M.parseR [102, 117, 110, 32, 102, 40, 97, 41, 123, 120, 61, 97, 46, 112, 59, 125] = (fxP, (0, 0)) := by kernel_rfl
theorem fx2 : M.printed fxP = some [102, 117, 110, 32, 102, 32, 40, 32, 97, 32, 41, 32, 123, 32, 120, 32, 61, 32, 97, 32, 46, 32, 112, 32, 59, 32, 125, 10] := by kernel_rfl
theorem fx2t : prT fxP = ⟨#[102, 117, 110, 32, 102, 32, 40, 32, 97, 32, 41, 32, 123, 32, 120, 32, 61, 32, 97, 32, 46, 32, 112, 32, 59, 32, 125, 10]⟩ := by unfold prT; rw [fx2]; rfl
theorem fx2b : prB fxP = true := by unfold prB; rw [fx2]; rfl
def fxS : M.Tr := M.one 0 (M.ch 120) M.em M.em [⟨3, 0, M.ch 103⟩] [] .nil .nil
theorem fx3 : M.printed (aloneP fxS) = some [102, 117, 110, 32, 102, 32, 40, 32, 41, 32, 123, 32, 120, 32, 61, 32, 38, 32, 103, 32, 59, 32, 125, 10] := by kernel_rfl
theorem fx3t : stT fxS = ⟨#[120, 32, 61, 32, 38, 32, 103, 32, 59]⟩ := by
  unfold stT
  rw [if_pos (by unfold prB; rw [fx3]; rfl)]
  kernel_rfl
theorem fx4 : M.printed [⟨M.kFun, [], .nil⟩] = none := by kernel_rfl
theorem fx4b : prB [⟨M.kFun, [], .nil⟩] = false := by unfold prB; rw [fx4]; rfl
theorem fx5 : M.printed (aloneP (M.one 0 M.em M.em M.em [] [] .nil .nil)) = none := by kernel_rfl
theorem fx5t : stT (M.one 0 M.em M.em M.em [] [] .nil .nil) = ⟨#[]⟩ := by
  unfold stT
  rw [if_neg (by unfold prB; rw [fx5]; simp)]
theorem rparseC (s : ByteArray) (l : List UInt8) (p : List M.Fn) (f : M.Flt) (w : World) (hs : s.size ≤ maxLen) (hl : s.data.toList = l) (hr : M.parseR l = (p, f)) :
    Calls Tryz.prog 17 #[.string s] w fun e w' => Below w.heap.size w w' ∧ ∃ a c, e = .returned (.tuple #[.agg #[.slice a p.length c], .agg #[.int .i64 f.1, .int .i64 f.2]]) ∧ ProgAt w' NoX (.slice a p.length c) p := by
  subst hl
  refine (rparse_any s w hs).mono ?_
  rintro e w' ⟨hb, vf, rfl, hP⟩
  rw [hr] at hP ⊢
  obtain ⟨a, c, rfl⟩ : ∃ a c, vf = .slice a p.length c := by obtain ⟨_, h1, _⟩ := hP; exact SlAt.form h1
  exact ⟨hb, a, c, rfl, hP.weak fun _ _ _ h => h⟩
theorem fxR : RngP fxP := fun f hf => by
  simp only [fxP, List.mem_singleton] at hf
  subst hf
  exact ⟨fun o ho => (by cases ho), trivial, trivial, trivial⟩
theorem emptyR : RngP [⟨M.kFun, [], .nil⟩] := fun f hf => by
  simp only [List.mem_singleton] at hf
  subst hf
  exact trivial

set_option maxRecDepth 8000 in
set_option maxHeartbeats 4000000 in
theorem fixed_any (w : World) (htab : TabW w) : Calls Tryz.prog 10 #[] w fun e w' => e = .returned (.bool true) ∧ Below w.heap.size w w' := by
  go_enter Tryz.func10, Tryz.ntmps10
  go_wp2_with (go_at_call 17; refine stopHere ?_)
  refine stopAt ?_
  refine (rparseC _ _ _ _ w (by decide) rfl fx1).mono ?_
  rintro e w1 ⟨hb1, a1, c1, rfl, hP1⟩
  obtain ⟨o1, ho1⟩ : ∃ o1 : Obj, o1 = .cells #[.slice a1 fxP.length c1] 24 (0, 0) := ⟨_, rfl⟩
  obtain ⟨o2, ho2⟩ : ∃ o2 : Obj, o2 = .cells #[.int .i64 0, .int .i64 0] 39 (0, 0) := ⟨_, rfl⟩
  obtain ⟨o3, ho3⟩ : ∃ o3 : Obj, o3 = .cells #[.int .i64 3, .int .i64 0, .string ⟨#[103]⟩] 47 (0, 0) := ⟨_, rfl⟩
  obtain ⟨o4, ho4⟩ : ∃ o4 : Obj, o4 = .cells #[.int .i64 0, .string ⟨#[120]⟩, .string ⟨#[]⟩, .string ⟨#[]⟩, .slice (some ⟨w1.heap.size + 1 + 1, 0, none⟩) 1 1, .slice none 0 0, .slice none 0 0, .slice none 0 0] 32 (0, 0) := ⟨_, rfl⟩
  have hb2 : Below w1.heap.size w1 ((((w1.alloc o1).alloc o2).alloc o3).alloc o4) := ((((Below.refl _ w1).alloc (Nat.le_refl _) _).alloc (by simp) _).alloc (by simp; omega) _).alloc (by simp; omega) _
  have e0 : ((((w1.alloc o1).alloc o2).alloc o3).alloc o4).heap[w1.heap.size]? = some o1 := heap_al (heap_al (heap_al (heap_alloc_new w1 o1)))
  have e2 : ((((w1.alloc o1).alloc o2).alloc o3).alloc o4).heap[w1.heap.size + 1 + 1]? = some o3 := by
    have := heap_alloc_new ((w1.alloc o1).alloc o2) o3
    rw [World.size_alloc, World.size_alloc] at this
    exact heap_al this
  have e3 : ((((w1.alloc o1).alloc o2).alloc o3).alloc o4).heap[w1.heap.size + 1 + 1 + 1]? = some o4 := by
    have := heap_alloc_new (((w1.alloc o1).alloc o2).alloc o3) o4
    rw [World.size_alloc, World.size_alloc, World.size_alloc] at this
    exact this
  have HB2 : Hid (Below w1.heap.size w1 ((((w1.alloc o1).alloc o2).alloc o3).alloc o4)) := hb2
  have HE0 := hid e0
  have HE2 := hid e2
  have HE3 := hid e3
  clear hb2 e0 e2 e3
  subst ho1 ho2 ho3 ho4
  go_wp2_with (go_at_call 13; refine stopHere ?_)
  refine stopAt ?_
  have hb12 := HB2.out
  have ht2 := (htab.below hb1).below hb12
  refine (pprogram_any _ _ fxP (hP1.keep (Below.keepX hb12)) fxR ht2).mono ?_
  rintro e w2 ⟨rfl, hb3⟩
  rw [fx2t]
  have f0 := kept hb3 HE0.out
  have f2 := kept hb3 HE2.out
  have f3 := kept hb3 HE3.out
  have B2 : Below w.heap.size w w2 := (hb1.trans (hb12.mono hb1.size)).trans (hb3.mono (hb1.trans (hb12.mono hb1.size)).size)
  have hP2 := (hP1.keep (Below.keepX hb12)).keep (Below.keepX hb3)
  have ht3 := ht2.below hb3
  clear HB2 HE0 HE2 HE3 hb12 hb3
  have c0 := cell0 f0
  go_wp2_with (go_at_call 11; refine stopHere ?_)
  refine stopAt ?_
  refine (pmay_any w2 _ fxP hP2 fxR ht3).mono ?_
  rintro e w3 ⟨rfl, hb3⟩
  rw [fx2b]
  have f2 := kept hb3 f2
  have f3 := kept hb3 f3
  have B3 := B2.trans (hb3.mono B2.size)
  have ht4 := ht3.below hb3
  obtain ⟨m0, m1, m2, m3, m4, m5, m6, m7, mf, mz⟩ := cells8 f3
  clear c0
  go_wp2_with (go_at_call 15; refine stopHere ?_)
  refine stopAt ?_
  have hops : OpsAt w3 NoX (.slice (some ⟨w1.heap.size + 1 + 1, 0, none⟩) 1 1) [⟨3, 0, M.ch 103⟩] := ops1_at f2 (fun h => h)
  refine (pstmt_any w3 0 (M.ch 120) M.em M.em _ _ _ _ [⟨3, 0, M.ch 103⟩] [] .nil .nil hops (StrsAt.nil _ _) (StmAt.nil _ _) (StmAt.nil _ _) (fun o ho => by simp only [List.mem_singleton] at ho; subst ho; exact ⟨by decide, by decide⟩) trivial trivial ht4).mono ?_
  rintro e w4 ⟨rfl, hb4⟩
  have hst : stT (M.one 0 (M.ch 120) M.em M.em [⟨3, 0, M.ch 103⟩] [] .nil .nil) = ⟨#[120, 32, 61, 32, 38, 32, 103, 32, 59]⟩ := fx3t
  rw [hst]
  have B4 := B3.trans (hb4.mono B3.size)
  have ht5 := ht4.below hb4
  clear m0 m1 m2 m3 m4 m5 m6 m7 mf mz f2 f3 hops hst
  have hb5 : Below w4.heap.size w4 (w4.alloc (.cells #[.string ⟨#[102, 117, 110]⟩, .slice none 0 0, .slice none 0 0] 34)) := (Below.refl _ _).alloc (Nat.le_refl _) _
  have hpg : ProgAt (w4.alloc (.cells #[.string ⟨#[102, 117, 110]⟩, .slice none 0 0, .slice none 0 0] 34)) NoX (.slice (some ⟨w4.heap.size, 0, none⟩) 1 1) [⟨M.kFun, [], .nil⟩] :=
    ⟨_, slAt_heap [.string ⟨#[102, 117, 110]⟩, .slice none 0 0, .slice none 0 0] (heap_alloc_new w4 _) (by show 1 ≤ _; omega) (by show 1 ≤ 1 ∧ 1 ≤ maxLen; simp [maxLen]), ⟨_, _, [], rfl, StrsAt.nil _ _, StmAt.nil _ _, rfl⟩⟩
  have HB5 := hid hb5
  have HPG := hid hpg
  clear hb5 hpg
  go_wp2_with (go_at_call 11; refine stopHere ?_)
  refine stopAt ?_
  refine (pmay_any _ _ _ HPG.out emptyR (ht5.below HB5.out)).mono ?_
  rintro e w5 ⟨rfl, hb6⟩
  rw [fx4b]
  have B5 := (B4.trans (HB5.out.mono B4.size)).trans (hb6.mono (B4.trans (HB5.out.mono B4.size)).size)
  have ht6 := (ht5.below HB5.out).below hb6
  clear HB5 HPG hb6
  go_wp2_with (go_at_call 15; refine stopHere ?_)
  refine stopAt ?_
  refine (pstmt_any w5 0 M.em M.em M.em _ _ _ _ [] [] .nil .nil (OpsAt.nil _ _) (StrsAt.nil _ _) (StmAt.nil _ _) (StmAt.nil _ _) (fun o ho => by cases ho) trivial trivial ht6).mono ?_
  rintro e w6 ⟨rfl, hb7⟩
  rw [fx5t]
  go_wp2_with fail
  go_ret
  exact ⟨rfl, B5.trans (hb7.mono B5.size)⟩
end Go.Proofs.YtkpmpnebmkeocaaGreatDoor
