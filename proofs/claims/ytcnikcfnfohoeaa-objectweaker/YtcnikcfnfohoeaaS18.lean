/-
  The walks of the document's Null and Num, and of the law's one; what is fixed of them, as mathematics. No conditions.
-/
import Derived.Test.YtcnikcfnfohoeaaS16
import Derived.Test.YtcnikcfnfohoeaaS9
set_option linter.unusedVariables false
set_option linter.unusedSimpArgs false
namespace Go.Proofs.Ytcnikcfnfohoeaa
open Go.RowKit Go.Sort

namespace M
def lnum : List Atm := [⟨2, 0⟩]
def lnull : List Atm := [⟨0, 0⟩]
def lboth : List Atm := [⟨0, 0⟩, ⟨2, 0⟩]
def nmP : ByteArray := ⟨#[112]⟩
/-- p, sure a number -/
def one : Shp := ⟨[⟨nmP, true, lnum⟩], lnull⟩
def bare : Shp := ⟨[], lnull⟩
def fJ : Shp := ⟨[⟨nmP, false, lnum⟩], lnull⟩
def fW : Shp := ⟨[⟨nmP, true, lboth⟩], lnull⟩
def fS : Shp := ⟨[⟨nmP, true, lnull⟩], lnull⟩
theorem one_may : mayS one = true := by decide +kernel
theorem bare_may : mayS bare = true := by decide +kernel
theorem fJ_eq : (if mayS one && mayS bare then joinS one bare else zeroS) = fJ := by decide +kernel
theorem fW_eq : (if mayS one then weakS one nmP lnull else zeroS) = fW := by decide +kernel
theorem fS_eq : (if mayS one then strongS one nmP lnull else zeroS) = fS := by decide +kernel
theorem one_there : (getF one.fs nmP).isSome = true := by decide +kernel
theorem fJ_get : getF fJ.fs nmP = some ⟨nmP, false, lnum⟩ := by decide +kernel
theorem fW_get : getF fW.fs nmP = some ⟨nmP, true, lboth⟩ := by decide +kernel
theorem fS_get : getF fS.fs nmP = some ⟨nmP, true, lnull⟩ := by decide +kernel
theorem one_in : (mayS one && mayS fJ && withinS one fJ) = true := by decide +kernel
theorem not_in : (mayS fJ && mayS one && withinS fJ one) = false := by decide +kernel
theorem same_num : sameB lnum lnum = true := by decide +kernel
theorem same_null : sameB lnull lnull = true := by decide +kernel
theorem sm_of {s : Shp} (h : smallB s = true) : Sm 100000 s := sm_mono (small_sm h) (by decide)
theorem one_sm : Sm 100000 one := sm_of (by decide +kernel)
theorem bare_sm : Sm 100000 bare := sm_of (by decide +kernel)
theorem fJ_sm : Sm 100000 fJ := sm_of (by decide +kernel)
theorem fW_sm : Sm 100000 fW := sm_of (by decide +kernel)
theorem fS_sm : Sm 100000 fS := sm_of (by decide +kernel)
end M

set_option maxHeartbeats 1000000 in
theorem null_any (w : World) : Calls Try.prog 29 #[] w fun e w' => ∃ q m, e = .returned (.slice q 1 m) ∧ AtAt w' (.slice q 1 m) M.lnull ∧ Below w.heap.size w w' := by
  have hA := hid (atAt_new w M.lnull (by decide) (by intro x hx; simp [M.lnull] at hx; subst hx; simp [InR]))
  have hB := hid (gr_new w (.cells (M.lnull.flatMap ac).toArray 37)).below
  go_enter Try.func29, Try.ntmps29
  go_wp2
  go_ret
  exact ⟨_, _, rfl, hA.out, hB.out⟩
set_option maxHeartbeats 1000000 in
theorem num_any (w : World) : Calls Try.prog 32 #[] w fun e w' => ∃ q m, e = .returned (.slice q 1 m) ∧ AtAt w' (.slice q 1 m) M.lnum ∧ Below w.heap.size w w' := by
  have hA := hid (atAt_new w M.lnum (by decide) (by intro x hx; simp [M.lnum] at hx; subst hx; simp [InR]))
  have hB := hid (gr_new w (.cells (M.lnum.flatMap ac).toArray 37)).below
  go_enter Try.func32, Try.ntmps32
  go_wp2
  go_ret
  exact ⟨_, _, rfl, hA.out, hB.out⟩

set_option maxHeartbeats 2000000 in
theorem one_any (w : World) : Calls Try.prog 31 #[] w fun e w' => ∃ a c b d, e = .returned (.agg #[.slice a 1 c, .slice b 1 d]) ∧ ShAt w' (.agg #[.slice a 1 c, .slice b 1 d]) M.one ∧ Below w.heap.size w w' := by
  obtain ⟨W0, hW0⟩ : ∃ W0, w.alloc (.cells #[.slice none 0 0, .slice none 0 0] 25) = W0 := ⟨_, rfl⟩
  have P0 := new_at w (.cells #[.slice none 0 0, .slice none 0 0] 25)
  rw [hW0] at P0
  have hP0 := hid P0
  have B0 : Hid (Below w.heap.size w W0) := by unfold Hid; rw [← hW0]; exact (gr_new _ _).below
  have hz0 : w.heap.size < W0.heap.size := by rw [← hW0]; simp
  clear P0
  go_enter Try.func31, Try.ntmps31
  go_wp2_with (go_at_call 32; refine stopHere ?_)
  refine stopAt ?_
  refine (num_any W0).mono ?_
  rintro e w1 ⟨q1, m1, rfl, hA1, hb1⟩
  have A1 := hid hA1
  have B1 : Hid (Below w.heap.size w w1) := B0.out.trans (hb1.mono B0.out.size)
  have hP1 := hid (kept hP0.out hz0 hb1)
  have hz1 : w.heap.size < w1.heap.size := Nat.lt_of_lt_of_le hz0 hb1.size
  clear hA1 hb1 hW0
  obtain ⟨x0, hx0⟩ : ∃ x : Cel, x = ⟨⟨M.nmP, true, M.lnum⟩, q1, m1⟩ := ⟨_, rfl⟩
  have hrow : Hid (RowF w1.heap.size (w1.alloc (.cells #[.string ⟨#[112]⟩, .bool true, .slice q1 1 m1] 29)) (.slice (some ⟨w1.heap.size, 0, none⟩) 1 1) [x0]) := by
    rw [hx0]
    exact World.ownsRow_lit (base := w1.heap.size) (e := 29) (size := 3) w1 #[.string ⟨#[112]⟩, .bool true, .slice q1 1 m1] 1 (Nat.le_refl _) (by simp [maxLen]) (by simp)
  obtain ⟨W2, hW2⟩ : ∃ W2, w1.alloc (.cells #[.string ⟨#[112]⟩, .bool true, .slice q1 1 m1] 29) = W2 := ⟨_, rfl⟩
  rw [hW2] at hrow
  have hB2 : Below w1.heap.size w1 W2 := by rw [← hW2]; exact (gr_new _ _).below
  have A2 := hid (A1.out.bel hB2)
  have hP2 := hid (kept hP1.out hz1 hB2)
  have B2 : Hid (Below w.heap.size w W2) := B1.out.trans (hB2.mono B1.out.size)
  have hz2 : w.heap.size < W2.heap.size := Nat.lt_of_lt_of_le hz1 hB2.size
  go_wp2_with (go_at_call 29; refine stopHere ?_)
  refine stopAt ?_
  refine (null_any W2).mono ?_
  rintro e w3 ⟨q3, m3, rfl, hA3, hb3⟩
  have A3 := hid hA3
  have R3 := hid (hrow.out.keep hb3)
  have AN3 := hid (A2.out.bel hb3)
  have B3 : Hid (Below w.heap.size w w3) := B2.out.trans (hb3.mono B2.out.size)
  obtain ⟨z0, z1, zf⟩ := cells2 (kept hP2.out hz2 hb3)
  clear hA3 hb3 hW2 hB2
  go_wp2
  refine bodyPost_ret (v := .agg #[.slice (some ⟨w1.heap.size, 0, none⟩) 1 1, .slice q3 1 m3]) (by simp [results, Try.results31, go_sem, z0, z1]) rfl ?_
  refine ⟨_, _, _, _, rfl, ?_, set2b B3.out (by omega) _ _⟩
  have hsh : ShNew (w.heap.size + 1) w3 (.agg #[.slice (some ⟨w1.heap.size, 0, none⟩) 1 1, .slice q3 1 m3]) M.one :=
    ⟨_, _, rfl, ⟨[x0], by rw [hx0]; rfl, R3.out.mono (by omega), fun x hx => by rw [List.mem_singleton.1 hx, hx0]; exact AN3.out⟩, A3.out⟩
  exact (hsh.set2 (by omega) z0 z1 (noInt_v _ _ _) (noInt_v _ _ _)).at
end Go.Proofs.Ytcnikcfnfohoeaa
