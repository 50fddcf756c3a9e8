/-
  The walks of the law's in, small and fixed: the calls whose answers the document fixes are answered so. No conditions.
-/
import Derived.Test.YtcjmjdgcehmigaaK2
import Derived.Test.YtcjmjdgcehmigaaN10
set_option linter.unusedVariables false
set_option linter.unusedSimpArgs false
namespace Go.Proofs.Ytcjmjdgcehmigaa
open Go.RowKit

def bA : ByteArray := ⟨#[97]⟩
def bB : ByteArray := ⟨#[98]⟩
def bC : ByteArray := ⟨#[99]⟩
def bE : ByteArray := ⟨#[]⟩
def smallT : M.Tr := .cons 9 bE bE bE [] [] (.cons 4 bA bE bE [] [] .nil .nil .nil) (.cons 7 bB bE bE [] [] .nil .nil .nil) (.cons 4 bC bE bE [] [] .nil .nil .nil)

set_option maxHeartbeats 1000000 in
theorem in_any (w : World) (x : ByteArray) :
    Calls Try.prog 27 #[.string x] w fun e w' => e = .returned (.agg #[.int .i64 7, .string x, .string ⟨#[]⟩, .string ⟨#[]⟩, .slice none 0 0, .slice none 0 0, .slice none 0 0, .slice none 0 0]) ∧ Below w.heap.size w w' := by
  go_enter Try.func27, Try.ntmps27
  go_wp2
  refine bodyPost_ret (v := .agg #[.int .i64 7, .string x, .string ⟨#[]⟩, .string ⟨#[]⟩, .slice none 0 0, .slice none 0 0, .slice none 0 0, .slice none 0 0]) (by simp [results, Try.results27, go_sem]) rfl ⟨rfl, ?_⟩
  exact (Below.refl _ _).alloc (Nat.le_refl _) _

theorem blkStm {w : World} {g n c : Nat} {T : TypeId} {cs : Array Value} {t : M.Tr} (h : w.heap[g]? = some (.cells cs T (0, 0))) (hr : RowAt w NoX cs.toList t) (ht : t.len = n) (hn : n ≤ 4398046511104) (hc : n ≤ c) (hm : c ≤ maxLen) : StmAt w NoX (.slice (some ⟨g, 0, none⟩) n c) t := by
  subst ht
  refine ⟨cs.toList, ⟨hn, _, _, rfl, .inr ⟨g, 0, rfl, (Array.getElem?_eq_some_iff.1 h).1, ⟨fun h => h, hc, hm⟩, fun i u hu => ?_⟩⟩, hr⟩
  rw [Lib.cell_of_heap h, Nat.zero_add]
  simpa using hu
theorem leafRow (w : World) (op : Int) (x : ByteArray) : RowAt w NoX [.int .i64 op, .string x, .string bE, .string bE, .slice none 0 0, .slice none 0 0, .slice none 0 0, .slice none 0 0] (.cons op x bE bE [] [] .nil .nil .nil) :=
  RowAt.one (OpsAt.nil _ _) (StrsAt.nil _ _) (StmAt.nil _ _) (StmAt.nil _ _)

set_option maxHeartbeats 1000000 in
theorem small_any (w : World) :
    Calls Try.prog 21 #[] w fun e w' => ∃ q m, e = .returned (.slice q smallT.len m) ∧ StmAt w' NoX (.slice q smallT.len m) smallT ∧ Below w.heap.size w w' := by
  go_enter Try.func21, Try.ntmps21
  go_wp2_with (go_at_call 27; refine (in_any _ _).mono ?_; rintro e w1 ⟨rfl, hb1⟩)
  have a1 := kept hb1 (heap_alloc_new w (.cells #[.int .i64 4, .string ⟨#[97]⟩, .string ⟨#[]⟩, .string ⟨#[]⟩, .slice none 0 0, .slice none 0 0, .slice none 0 0, .slice none 0 0] 36))
  have a2 := heap_alloc_new w1 (.cells #[.int .i64 7, .string ⟨#[98]⟩, .string ⟨#[]⟩, .string ⟨#[]⟩, .slice none 0 0, .slice none 0 0, .slice none 0 0, .slice none 0 0] 36)
  have a3 := heap_alloc_new (w1.alloc (.cells #[.int .i64 7, .string ⟨#[98]⟩, .string ⟨#[]⟩, .string ⟨#[]⟩, .slice none 0 0, .slice none 0 0, .slice none 0 0, .slice none 0 0] 36)) (.cells #[.int .i64 9, .string ⟨#[]⟩, .string ⟨#[]⟩, .string ⟨#[]⟩, .slice none 0 0, .slice none 0 0, .slice (some ⟨w.heap.size, 0, none⟩) 1 1, .slice (some ⟨w1.heap.size, 0, none⟩) 1 1, .int .i64 4, .string ⟨#[99]⟩, .string ⟨#[]⟩, .string ⟨#[]⟩, .slice none 0 0, .slice none 0 0, .slice none 0 0, .slice none 0 0] 36)
  have b1 := heap_al (o' := .cells #[.int .i64 9, .string ⟨#[]⟩, .string ⟨#[]⟩, .string ⟨#[]⟩, .slice none 0 0, .slice none 0 0, .slice (some ⟨w.heap.size, 0, none⟩) 1 1, .slice (some ⟨w1.heap.size, 0, none⟩) 1 1, .int .i64 4, .string ⟨#[99]⟩, .string ⟨#[]⟩, .string ⟨#[]⟩, .slice none 0 0, .slice none 0 0, .slice none 0 0, .slice none 0 0] 36) (heap_al (o' := .cells #[.int .i64 7, .string ⟨#[98]⟩, .string ⟨#[]⟩, .string ⟨#[]⟩, .slice none 0 0, .slice none 0 0, .slice none 0 0, .slice none 0 0] 36) a1)
  have b2 := heap_al (o' := .cells #[.int .i64 9, .string ⟨#[]⟩, .string ⟨#[]⟩, .string ⟨#[]⟩, .slice none 0 0, .slice none 0 0, .slice (some ⟨w.heap.size, 0, none⟩) 1 1, .slice (some ⟨w1.heap.size, 0, none⟩) 1 1, .int .i64 4, .string ⟨#[99]⟩, .string ⟨#[]⟩, .string ⟨#[]⟩, .slice none 0 0, .slice none 0 0, .slice none 0 0, .slice none 0 0] 36) a2
  rw [World.size_alloc] at a3
  go_ret
  refine ⟨_, _, rfl, ?_, ?_⟩
  · refine blkStm a3 ?_ rfl (by simp [smallT, M.Tr.len]) (by simp [smallT, M.Tr.len]) (by simp [maxLen])
    have h1 := blkStm (n := 1) (c := 1) b1 (leafRow _ 4 bA) rfl (by omega) (by omega) (by simp [maxLen])
    have h2 := blkStm (n := 1) (c := 1) b2 (leafRow _ 7 bB) rfl (by omega) (by omega) (by simp [maxLen])
    exact RowAt.app (RowAt.one (op := 9) (x := bE) (y := bE) (p := bE) (OpsAt.nil _ _) (StrsAt.nil _ _) h1 h2) (leafRow _ 4 bC)
  · have hB1 : Below w.heap.size w w1 := ((Below.refl _ w).alloc (Nat.le_refl _) _).trans (hb1.mono (by simp))
    exact (hB1.alloc hB1.size _).alloc (by have := hB1.size; simp; omega) _

theorem smallN : (M.nodes smallT).length = 4 := rfl
theorem smallL : M.toTr (M.nodes smallT) = .cons 9 bE bE bE [] [] (.cons 4 bA bE bE [] [] .nil .nil .nil) (.cons 7 bB bE bE [] [] .nil .nil .nil) (.cons 4 bA bE bE [] [] .nil .nil (.cons 7 bB bE bE [] [] .nil .nil (.cons 4 bC bE bE [] [] .nil .nil .nil))) := rfl
theorem smallF : Few 4294967296 smallT := by simp [smallT, Few]
theorem smallB : M.blocks (M.nodes smallT) 0 = (1, 2, 3) := by rfl
theorem smallS3 : M.site (M.nodes smallT) 3 = (1, true) := by rfl
theorem smallS2 : M.site (M.nodes smallT) 2 = (0, false) := by rfl
theorem smallS : M.sites (M.nodes smallT) = 2 := by rfl
/-- the names of the four -/
theorem four {w : World} {a : Option Addr} {c : Nat} (h : StmAt w NoX (.slice a 4 c) (M.toTr (M.nodes smallT))) : ∃ b o, a = some ⟨b, o, none⟩ ∧ b < w.heap.size ∧ w.cell? ⟨b, o + 1 * 8 + 1, none⟩ = some (.string bA) ∧ w.cell? ⟨b, o + 2 * 8 + 1, none⟩ = some (.string bB) ∧ w.cell? ⟨b, o + 3 * 8 + 1, none⟩ = some (.string bC) := by
  obtain ⟨cs, ⟨l1, a1, cap1, e, g1⟩, row1⟩ := h
  simp only [Value.slice.injEq] at e
  obtain ⟨rfl, _, rfl⟩ := e
  rcases g1 with ⟨g1, _⟩ | ⟨b, o, rfl, hlt, _, hc⟩
  · rw [M.toTr_len, smallN] at g1; omega
  · rw [smallL] at row1
    obtain ⟨_, _, _, _, _, _, r1, e1, _, _, _, _, row2⟩ := row1
    obtain ⟨_, _, _, _, _, _, r2, e2, _, _, _, _, row3⟩ := row2
    obtain ⟨_, _, _, _, _, _, r3, e3, _, _, _, _, row4⟩ := row3
    obtain ⟨_, _, _, _, _, _, r4, e4, _, _, _, _, row5⟩ := row4
    subst e4 e3 e2 e1
    exact ⟨b, o, rfl, hlt, hc 9 _ rfl, hc 17 _ rfl, hc 25 _ rfl⟩

set_option maxRecDepth 8000 in
set_option maxHeartbeats 2000000 in
theorem fixed_any (w : World) : Calls Try.prog 9 #[] w fun e w' => e = .returned (.bool true) ∧ Below w.heap.size w w' := by
  go_enter Try.func9, Try.ntmps9
  go_wp2_with (go_at_call 21; refine stopHere ?_)
  refine stopAt ?_
  refine (small_any w).mono ?_
  rintro e w1 ⟨q1, m1, rfl, s1, b1⟩
  go_wp2_with (go_at_call 16; refine stopHere ?_)
  refine stopAt ?_
  refine (list_any w1 _ smallT s1 (by rw [smallN]; omega) smallF).mono ?_
  rintro e w2 ⟨q2, m2, rfl, s2, b2⟩
  have B2 := b1.trans (b2.mono b1.size)
  rw [smallN] at s2 ⊢
  go_wp2_with (go_at_call 21; refine stopHere ?_)
  refine stopAt ?_
  refine (small_any w2).mono ?_
  rintro e w3 ⟨q3, m3, rfl, s3, b3⟩
  go_wp2_with (go_at_call 12; refine stopHere ?_)
  refine stopAt ?_
  refine (blocks_any w3 _ smallT 0 s3 (by rw [smallN]; omega)).mono ?_
  rintro e w4 ⟨rfl, b4⟩
  rw [smallB]
  have B4 := b3.trans (b4.mono b3.size)
  go_wp2_with (go_at_call 21; refine stopHere ?_)
  refine stopAt ?_
  refine (small_any w4).mono ?_
  rintro e w5 ⟨q5, m5, rfl, s5, b5⟩
  go_wp2_with (go_at_call 10; refine stopHere ?_)
  refine stopAt ?_
  refine (site_any w5 _ smallT 3 s5 (by rw [smallN]; omega)).mono ?_
  rintro e w6 ⟨rfl, b6⟩
  rw [smallS3]
  have B6 := B4.trans ((b5.trans (b6.mono b5.size)).mono B4.size)
  go_wp2_with (go_at_call 21; refine stopHere ?_)
  refine stopAt ?_
  refine (small_any w6).mono ?_
  rintro e w7 ⟨q7, m7, rfl, s7, b7⟩
  go_wp2_with (go_at_call 10; refine stopHere ?_)
  refine stopAt ?_
  refine (site_any w7 _ smallT 2 s7 (by rw [smallN]; omega)).mono ?_
  rintro e w8 ⟨rfl, b8⟩
  rw [smallS2]
  have B8 := B6.trans ((b7.trans (b8.mono b7.size)).mono B6.size)
  obtain ⟨gb, go, rfl, hlt, c1, c2, c3⟩ := four s2
  rw [← B8.cell (p := ⟨gb, _, none⟩) hlt] at c1 c2 c3
  simp only [bA, bB, bC] at c1 c2 c3
  go_wp2_with (go_at_call 21; refine stopHere ?_)
  refine stopAt ?_
  refine (small_any w8).mono ?_
  rintro e w9 ⟨q9, m9, rfl, s9, b9⟩
  go_wp2_with (go_at_call 18; refine stopHere ?_)
  refine stopAt ?_
  refine (sites_any w9 _ smallT s9 (by rw [smallN]; omega)).mono ?_
  rintro e w10 ⟨rfl, b10⟩
  rw [smallS]
  have B10 := B8.trans ((b9.trans (b10.mono b9.size)).mono B8.size)
  go_wp2_with (go_at_call 21; refine stopHere ?_)
  refine stopAt ?_
  refine (small_any w10).mono ?_
  rintro e w11 ⟨q11, m11, rfl, s11, b11⟩
  go_wp2_with (go_at_call 17; refine stopHere ?_)
  refine stopAt ?_
  refine (count_any w11 _ smallT s11 (by rw [smallN]; omega)).mono ?_
  rintro e w12 ⟨rfl, b12⟩
  rw [smallN]
  have B12 := B10.trans ((b11.trans (b12.mono b11.size)).mono B10.size)
  go_wp2
  go_ret
  exact ⟨rfl, B2.trans (B12.mono B2.size)⟩
end Go.Proofs.Ytcjmjdgcehmigaa
