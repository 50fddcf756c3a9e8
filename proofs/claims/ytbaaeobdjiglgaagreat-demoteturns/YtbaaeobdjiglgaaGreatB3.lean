/-
  Bytes and strings, for the walks of texts at stage 9's seat, which has not package atoms' Text. No conditions.
-/
import Derived.Test.YtbaaeobdjiglgaaGreatB1
import Derived.Test.YtbaaeobdjiglgaaGreatE20
set_option linter.unusedVariables false
set_option linter.unusedSimpArgs false
namespace Go.Proofs.YtbaaeobdjiglgaaGreat
open Go.RowKit Go.Sort
theorem ret_string {a b : ByteArray} (h : a = b) : Ending.returned (.string a) = .returned (.string b) := by rw [h]
/-- a list as a text -/
def bs (l : List UInt8) : ByteArray := ⟨l.toArray⟩
theorem bs_list (l : List UInt8) : (bs l).data.toList = l := by simp [bs]
theorem bs_size (l : List UInt8) : (bs l).size = l.length := by simp [bs, ByteArray.size]
theorem bs_of {s : ByteArray} {l : List UInt8} (h : s.data.toList = l) : s = bs l := M.bytes_ext (by rw [bs_list]; exact h)
theorem len_list (s : ByteArray) : s.data.toList.length = s.size := by simp
end Go.Proofs.YtbaaeobdjiglgaaGreat
