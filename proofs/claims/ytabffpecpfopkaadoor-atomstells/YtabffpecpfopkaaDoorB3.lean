/-
  The walks of atoms.word and atoms.Text. Conditions: lists of at most 100000 atoms whose numbers fit; that the table of powers lies as it should.
-/
import Derived.Test.YtabffpecpfopkaaDoorB1
import Derived.Test.YtabffpecpfopkaaDoorB2
set_option linter.unusedVariables false
set_option linter.unusedSimpArgs false
namespace Go.Proofs.YtabffpecpfopkaaDoor
open Go.RowKit Go.Sort

/-- the table that numbers are printed by lies as it should -/
def TabW (w : World) : Prop := Lib.TabIs Tryd.prog w "internal/strconv.uint64pow10" .u64 Lib.pow10Tab
theorem TabW.below {w w' : World} (h : TabW w) (hb : Below w.heap.size w w') : TabW w' := by
  unfold TabW Lib.TabIs World.var? at h ⊢
  cases hg : Tryd.prog.globalNamed "internal/strconv.uint64pow10" with
  | none => rw [hg] at h; cases h
  | some g =>
    rw [hg] at h
    simp only [Option.bind_some] at h ⊢
    rcases Nat.lt_or_ge g w.heap.size with h' | h'
    · rw [hb.block g h']; exact h
    · rw [Array.getElem?_eq_none h'] at h; cases h
theorem ret_string {a b : ByteArray} (h : a = b) : Ending.returned (.string a) = .returned (.string b) := by rw [h]
/-- a list as a text -/
def bs (l : List UInt8) : ByteArray := ⟨l.toArray⟩
theorem bs_list (l : List UInt8) : (bs l).data.toList = l := by simp [bs]
theorem bs_size (l : List UInt8) : (bs l).size = l.length := by simp [bs, ByteArray.size]
theorem bs_of {s : ByteArray} {l : List UInt8} (h : s.data.toList = l) : s = bs l := M.bytes_ext (by rw [bs_list]; exact h)
theorem len_list (s : ByteArray) : s.data.toList.length = s.size := by simp

set_option maxHeartbeats 1000000 in
theorem word_any (x : M.Atm) (w : World) (hr : InR x.n) (ht : TabW w) :
    Calls Tryd.prog 35 #[av x] w fun e w' => e = .returned (.string (bs (M.wordB x))) ∧ Gr w w' := by
  obtain ⟨k, n⟩ := x
  unfold av
  have hT1 := hid (ht.below ((Gr.refl w).alloc (.cells #[.int .i64 k, .int .i64 n] 24)).below)
  have K1 := hid (Tryd.strconv_Itoa n hr.1 hr.2 _ hT1.out)
  obtain ⟨s, hs⟩ : ∃ s : ByteArray, (⟨(Lib.itoa n).toArray⟩ : ByteArray) = s := ⟨_, rfl⟩
  have hsl : Hid (s.data.toList = Lib.itoa n) := by unfold Hid; rw [← hs]
  have hsz : s.size ≤ 21 := by rw [← len_list, hsl.out]; exact M.itoa_le hr.1 hr.2
  rw [hs] at K1
  clear hs ht hr
  by_cases k0 : k = 0
  · subst k0
    go_enter Tryd.func35, Tryd.ntmps35
    go_wp2
    go_ret
    exact ⟨ret_string (bs_of rfl), (Gr.refl _).alloc _⟩
  by_cases k1 : k = 1
  · subst k1
    go_enter Tryd.func35, Tryd.ntmps35
    go_wp2
    go_ret
    exact ⟨ret_string (bs_of rfl), (Gr.refl _).alloc _⟩
  by_cases k2 : k = 2
  · subst k2
    go_enter Tryd.func35, Tryd.ntmps35
    go_wp2
    go_ret
    exact ⟨ret_string (bs_of rfl), (Gr.refl _).alloc _⟩
  by_cases k3 : k = 3
  · subst k3
    go_enter Tryd.func35, Tryd.ntmps35
    go_wp2_with (go_at_call 46; refine stopHere ?_)
    refine stopAt ?_
    refine K1.out.mono ?_
    rintro e w1 ⟨rfl, q, os, rfl⟩
    go_wp2
    go_ret
    exact ⟨ret_string (bs_of (by simp [M.wordB, hsl.out])), (((Gr.refl _).alloc _).drewN _).grow _⟩
  by_cases k4 : k = 4
  · subst k4
    go_enter Tryd.func35, Tryd.ntmps35
    go_wp2_with (go_at_call 46; refine stopHere ?_)
    refine stopAt ?_
    refine K1.out.mono ?_
    rintro e w1 ⟨rfl, q, os, rfl⟩
    go_wp2
    go_ret
    exact ⟨ret_string (bs_of (by simp [M.wordB, hsl.out])), (((Gr.refl _).alloc _).drewN _).grow _⟩
  by_cases k5 : k = 5
  · subst k5
    go_enter Tryd.func35, Tryd.ntmps35
    go_wp2_with (go_at_call 46; refine stopHere ?_)
    refine stopAt ?_
    refine K1.out.mono ?_
    rintro e w1 ⟨rfl, q, os, rfl⟩
    go_wp2
    go_ret
    exact ⟨ret_string (bs_of (by simp [M.wordB, hsl.out])), (((Gr.refl _).alloc _).drewN _).grow _⟩
  by_cases k6 : k = 6
  · subst k6
    go_enter Tryd.func35, Tryd.ntmps35
    go_wp2
    go_ret
    exact ⟨ret_string (bs_of rfl), (Gr.refl _).alloc _⟩
  · have d0 : (k == 0) = false := by simp [k0]
    have d1 : (k == 1) = false := by simp [k1]
    have d2 : (k == 2) = false := by simp [k2]
    have d3 : (k == 3) = false := by simp [k3]
    have d4 : (k == 4) = false := by simp [k4]
    have d5 : (k == 5) = false := by simp [k5]
    have d6 : (k == 6) = false := by simp [k6]
    go_enter Tryd.func35, Tryd.ntmps35
    go_wp2
    go_ret
    exact ⟨ret_string (bs_of (by simp [M.wordB, k0, k1, k2, k3, k4, k5, k6])), (Gr.refl _).alloc _⟩

theorem ownsF_keep {w w' : World} {base size n : Nat} {e : TypeId} {v : Value} {xs : List Value} (h : w.ownsRowF base e size v n xs) (hb : Below w.heap.size w w') : w'.ownsRowF base e size v n xs := by
  refine ⟨h.1, ?_⟩
  rcases h.2 with h | ⟨g, cap, cur, fz, hv, h1, h2, h3⟩
  · exact .inl h
  · exact .inr ⟨g, cap, cur, fz, hv, h1, by rw [hb.block g (Array.getElem?_eq_some_iff.1 h2).1]; exact h2, h3⟩
theorem isB_keep {B b : Nat} {cs : List Value} {w w' : World} (h : Lib.IsBuilderF 47 5 B b cs w) (hg : Gr w w') : Lib.IsBuilderF 47 5 B b cs w' := by
  have hb := hg.below
  rcases h with ⟨h1, v, h2, h3, h4⟩ | ⟨h1, v, h2, h3, h4⟩
  · refine .inl ⟨h1, v, by rw [hb.block b (Array.getElem?_eq_some_iff.1 h2).1]; exact h2, ?_, h4⟩
    exact ownsF_keep h3 hb
  · refine .inr ⟨h1, v, by rw [hb.block b (Array.getElem?_eq_some_iff.1 h2).1]; exact h2, ?_, h4⟩
    exact ownsF_keep h3 hb
theorem isB_lt {B b : Nat} {cs : List Value} {w : World} (h : Lib.IsBuilderF 47 5 B b cs w) : b < w.heap.size := by
  rcases h with h | h
  · exact h.lt
  · exact h.lt
end Go.Proofs.YtabffpecpfopkaaDoor
