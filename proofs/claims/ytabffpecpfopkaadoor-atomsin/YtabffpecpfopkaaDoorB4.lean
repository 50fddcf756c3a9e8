/-
  The walk of atoms.Text. Conditions: lists of at most 100000 atoms whose numbers fit; that the table of powers lies as it should.
-/
import Derived.Test.YtabffpecpfopkaaDoorB3
set_option linter.unusedVariables false
set_option linter.unusedSimpArgs false
namespace Go.Proofs.YtabffpecpfopkaaDoor
open Go.RowKit Go.Sort

/-- the copy of an atom that a round has laid stands behind the builder's writing -/
theorem kept_atm {b : Nat} {W w' : World} {x y : Value} (hk : Lib.OthersKept 5 (some b) (W.alloc (.cells #[x, y] 24)) w') (hb : b < W.heap.size) :
    w'.cell? ⟨W.heap.size, 0, none⟩ = some x ∧ w'.cell? ⟨W.heap.size, 1, none⟩ = some y := by
  have h := hk W.heap.size (.cells #[x, y] 24) (heap_alloc_new W _) (by simp; omega) (by intro c fz; simp)
  exact ⟨by rw [Lib.cell_of_heap h]; rfl, by rw [Lib.cell_of_heap h]; rfl⟩
theorem str_bs (l : List UInt8) : Lib.strCells (bs l) = Lib.byteCells l := by
  have : Lib.strCells (bs l) = Lib.byteCells (bs l).data.toList := rfl
  rw [this, bs_list]

set_option maxHeartbeats 2000000 in
set_option maxRecDepth 100000 in
theorem text_any (w : World) (v : Value) (l : List M.Atm) (h : AtAt w v l) (hn : l.length ≤ 100000) (ht : TabW w) :
    Calls Tryd.prog 22 #[v] w fun e w' => e = .returned (.string (bs (M.textB l))) ∧ Below w.heap.size w w' := by
  obtain ⟨r1, a1, cp, rfl, g1⟩ := h
  have HC1 : Hid (l ≠ [] → ∃ b o, a1 = some ⟨b, o, none⟩ ∧ b < w.heap.size ∧ ∀ i (h : i < l.length), w.cell? ⟨b, o + i * 2, none⟩ = some (.int .i64 l[i].k) ∧ w.cell? ⟨b, o + i * 2 + 1, none⟩ = some (.int .i64 l[i].n)) := by
    intro hne
    rcases g1 with h | ⟨b, o, h1, h2, _, h3⟩
    · exact absurd h hne
    · exact ⟨b, o, h1, h2, h3⟩
  have R1 := hid r1
  have HT := hid ht
  clear g1 r1 ht
  go_enter Tryd.func22, Tryd.ntmps22
  go_wp2
  go_loopw [8] (fun i w' => ∃ j : Nat, j ≤ l.length ∧ i = .int .i64 j ∧ Hid (Below w.heap.size w w') ∧ Hid (Lib.IsBuilderF 47 5 w.heap.size w.heap.size (Lib.byteCells (M.textB (l.take j))) w')) (fun i _ => l.length - (intOf i).toNat)
  case atStart =>
    exact ⟨0, Nat.zero_le _, rfl, (Below.refl _ _).alloc (Nat.le_refl _) _, .inl ⟨Nat.le_refl _, .slice none 0 0, heap_alloc_new w _, World.ownsRowF_nil _ _ _ _, by simp [Value.ownBlock]⟩⟩
  case round =>
    obtain ⟨j, hj, rfl, hbw, hbu⟩ := hrel
    by_cases hjl : j < l.length
    · obtain ⟨b, o, rfl, hlt, hc⟩ := HC1.out (by intro e; rw [e] at hjl; simp at hjl)
      obtain ⟨c1, c2⟩ := hc j hjl
      rw [← hbw.out.cell (p := ⟨b, o + j * 2, none⟩) hlt] at c1
      rw [← hbw.out.cell (p := ⟨b, o + j * 2 + 1, none⟩) hlt] at c2
      obtain ⟨x, hx⟩ : ∃ x, l[j] = x := ⟨_, rfl⟩
      rw [hx] at c1 c2
      have HX := hid hx
      have HR : Hid (InR x.n) := by rw [← hx]; exact R1.out _ (List.getElem_mem hjl)
      have hle : Hid ((M.textB (l.take j)).length ≤ 2500000) := by
        have := M.text_le (l := l.take j) (fun y hy => R1.out y (List.mem_of_mem_take hy))
        have h2 : (l.take j).length ≤ 100000 := by rw [List.length_take]; omega
        unfold Hid; omega
      have hwl : Hid ((M.wordB x).length ≤ 24) := M.word_le HR.out.1 HR.out.2
      clear hx hc
      have hz := hbw.out.size
      have hbl := isB_lt hbu.out
      have hbu1 := hid (isB_keep hbu.out ((Gr.refl wr).alloc (.cells #[.int .i64 x.k, .int .i64 x.n] 24)))
      have hb1 := hid (hbw.out.alloc hz (.cells #[.int .i64 x.k, .int .i64 x.n] 24))
      have hz1 : w.heap.size ≤ (wr.alloc (.cells #[.int .i64 x.k, .int .i64 x.n] 24)).heap.size := hb1.out.size
      rcases Nat.eq_zero_or_pos j with rfl | hj0
      · simp only [Nat.zero_mul, Nat.add_zero] at c1 c2
        have hst := hid (M.text_first hjl)
        rw [HX.out] at hst
        obtain ⟨n1, n2⟩ := new_two wr (.int .i64 x.k) (.int .i64 x.n) 24
        simp only [Nat.zero_add] at n2
        have K1 := hid (word_any x _ HR.out (HT.out.below hb1.out))
        unfold av at K1
        go_wp2_with (go_at_call 35; refine stopHere ?_)
        refine stopAt ?_
        refine K1.out.mono ?_
        rintro e w3 ⟨rfl, hg3⟩
        have hb3 := hid (hb1.out.trans (hg3.below.mono hz1))
        have hbu3 := hid (isB_keep hbu1.out hg3)
        clear hbu hbu1 hg3
        go_wp2_with (go_at_call 34; refine stopHere ?_)
        refine stopAt ?_
        refine (writeString_k w.heap.size w.heap.size _ _ _ hbu3.out ?_ ?_).mono ?_
        · rw [Lib.byteCells_length, bs_size]; have := hle.out; have := hwl.out; omega
        · exact hb3.out.size
        rintro e w4 ⟨rfl, hB4, hb4, hk4⟩
        go_wp2
        refine ⟨⟨0 + 1, by omega, by go_num, hb3.out.trans hb4, ?_⟩, by simp [intOf]; omega⟩
        rw [hst.out]
        refine .inr ?_
        rw [str_bs] at hB4
        simpa [M.textB, M.joinB, Lib.byteCells] using hB4
      · have hst := hid (M.text_step hjl hj0)
        rw [HX.out] at hst
        have hpos : decide ((j : Int) > 0) = true := decide_eq_true (by omega)
        have hpos2 : (0 : Int) < (j : Int) := by omega
        go_wp2_with (go_at_call 33; refine stopHere ?_)
        refine stopAt ?_
        refine (writeByte_k w.heap.size w.heap.size _ 32 _ hbu1.out ?_ ?_).mono ?_
        · rw [Lib.byteCells_length]; have := hle.out; omega
        · exact hz1
        rintro e w2 ⟨rfl, hB2, hb2, hk2⟩
        obtain ⟨n1, n2⟩ := kept_atm hk2 hbl
        have hb2' := hid (hb1.out.trans hb2)
        have K1 := hid (word_any x w2 HR.out (HT.out.below hb2'.out))
        unfold av at K1
        have HB2 := hid hB2
        clear hB2 hb2 hk2 hbu1 hbu
        go_wp2_with (go_at_call 35; refine stopHere ?_)
        refine stopAt ?_
        refine K1.out.mono ?_
        rintro e w3 ⟨rfl, hg3⟩
        have hb3 := hid (hb2'.out.trans (hg3.below.mono hb2'.out.size))
        have hbu3 := hid (isB_keep (.inr HB2.out) hg3)
        clear hg3
        go_wp2_with (go_at_call 34; refine stopHere ?_)
        refine stopAt ?_
        refine (writeString_k w.heap.size w.heap.size _ _ _ hbu3.out ?_ ?_).mono ?_
        · simp only [List.length_append, Lib.byteCells_length, List.length_cons, List.length_nil, bs_size]; have := hle.out; have := hwl.out; omega
        · exact hb3.out.size
        rintro e w4 ⟨rfl, hB4, hb4, hk4⟩
        go_wp2
        refine ⟨⟨j + 1, by omega, by go_num, hb3.out.trans hb4, ?_⟩, by simp [intOf]; omega⟩
        rw [hst.out]
        refine .inr ?_
        rw [str_bs] at hB4
        have e : Lib.byteCells (M.textB (List.take j l) ++ 32 :: M.wordB x) = Lib.byteCells (M.textB (List.take j l)) ++ [Value.int .u8 32] ++ Lib.byteCells (M.wordB x) := by
          rw [Lib.byteCells_append, List.append_assoc]; rfl
        rw [e]; exact hB4
    · go_wp2_with (go_at_call 36; refine stopHere ?_)
      refine stopAt ?_
      refine (Tryd.Builder_String_any_k w.heap.size w.heap.size _ _ hbu.out hbw.out.size).mono ?_
      rintro e w3 ⟨rfl, hB3, hb3, hk3⟩
      go_wp2
      go_ret
      refine ⟨ret_string ?_, hbw.out.trans hb3⟩
      rw [List.take_of_length_le (by omega)]; rfl
end Go.Proofs.YtabffpecpfopkaaDoor
