/-
  Bytes and strings, for the walks of texts at stage 9's seat, which has not package atoms' Text. No conditions.
-/
import Derived.Test.YtbaaeobdjiglgaaGreatGA
import Derived.Test.YtbaaeobdjiglgaaGreatE20
set_option linter.unusedVariables false
set_option linter.unusedSimpArgs false
namespace Go.Proofs.YtbaaeobdjiglgaaGreat
open Go.RowKit Go.Sort
theorem ret_string {a b : ByteArray} (h : a = b) : Ending.returned (.string a) = .returned (.string b) := by rw [h]
/-- a list as a text -/
def bs (l : List UInt8) : ByteArray := ⟨l.toArray⟩
theorem bs_list (l : List UInt8) : (bs l).data.toList = l := by simp [bs]
theorem bs_size (l : List UInt8) : (bs l).size = l.length := by simp [bs, ByteArray.size]
theorem bs_of {s : ByteArray} {l : List UInt8} (h : s.data.toList = l) : s = bs l := M.bytes_ext (by rw [bs_list]; exact h)
theorem len_list (s : ByteArray) : s.data.toList.length = s.size := by simp
end Go.Proofs.YtbaaeobdjiglgaaGreat

/-
  The walks of the document's Null and Num, and of the law's rec, at stage 9's seat. No conditions.
-/
set_option linter.unusedVariables false
set_option linter.unusedSimpArgs false
namespace Go.Proofs.YtbaaeobdjiglgaaGreat
open Go.RowKit Go.Sort

namespace M
def lnum : List Atm := [⟨2, 0⟩]
def lnull : List Atm := [⟨0, 0⟩]
end M

set_option maxHeartbeats 1000000 in
theorem null_any (w : World) : Calls Tryz.prog 26 #[] w fun e w' => ∃ q m, e = .returned (.slice q 1 m) ∧ AtAt w' (.slice q 1 m) M.lnull ∧ Below w.heap.size w w' := by
  have hA := hid (atAt_new w M.lnull (by decide) (by intro x hx; simp [M.lnull] at hx; subst hx; simp [InR]))
  have hB := hid (gr_new w (.cells (M.lnull.flatMap ac).toArray 34)).below
  go_enter Tryz.func26, Tryz.ntmps26
  go_wp2
  go_ret
  exact ⟨_, _, rfl, hA.out, hB.out⟩
set_option maxHeartbeats 1000000 in
theorem num_any (w : World) : Calls Tryz.prog 28 #[] w fun e w' => ∃ q m, e = .returned (.slice q 1 m) ∧ AtAt w' (.slice q 1 m) M.lnum ∧ Below w.heap.size w w' := by
  have hA := hid (atAt_new w M.lnum (by decide) (by intro x hx; simp [M.lnum] at hx; subst hx; simp [InR]))
  have hB := hid (gr_new w (.cells (M.lnum.flatMap ac).toArray 34)).below
  go_enter Tryz.func28, Tryz.ntmps28
  go_wp2
  go_ret
  exact ⟨_, _, rfl, hA.out, hB.out⟩
set_option maxHeartbeats 1000000 in
theorem rec_any (k : Int) (w : World) : Calls Tryz.prog 18 #[.int .i64 k] w fun e w' => e = .returned (av ⟨4, k⟩) ∧ Below w.heap.size w w' := by
  unfold av
  obtain ⟨W0, hW0⟩ : ∃ W0, w.alloc (.cells #[.int .i64 0, .int .i64 0] 34) = W0 := ⟨_, rfl⟩
  have hB : Below w.heap.size w W0 := by rw [← hW0]; exact (gr_new _ _).below
  have p : W0.heap[w.heap.size]? = some (.cells #[.int .i64 0, .int .i64 0] 34 (0, 0)) := by rw [← hW0]; exact new_at _ _
  obtain ⟨x1, x2, xf⟩ := cells2 p
  go_enter Tryz.func18, Tryz.ntmps18
  go_wp2
  refine bodyPost_ret (v := .agg #[.int .i64 4, .int .i64 k]) (by simp [results, Tryz.results18, go_sem, x1, x2]) rfl ?_
  exact ⟨rfl, set2b hB (Nat.le_refl _) _ _⟩
end Go.Proofs.YtbaaeobdjiglgaaGreat
