/-
  The walk of lex.Print: of tokens that may be their texts, parted by one blank; of others nothing (prints of at most 2^47 bytes).
-/
import Derived.Test.YtilkkopgbdppjaaD
import Derived.Test.YtilkkopgbdppjaaMathB
set_option linter.unusedVariables false
namespace Go.Proofs.Ytilkkopgbdppjaa
open Go.RowKit

theorem hid {p : Prop} (h : p) : Hid p := h

theorem ret_str {a b : List UInt8} (h : a = b) : Ending.returned (.string ⟨a.toArray⟩) = .returned (.string ⟨b.toArray⟩) := by rw [h]

theorem isB_alloc {B b : Nat} {bs : List Value} {w : World} (h : Lib.IsBuilderF 48 5 B b bs w) (o : Obj) : Lib.IsBuilderF 48 5 B b bs (w.alloc o) := by
  rcases h with h | h
  · exact .inl (h.alloc o)
  · exact .inr (h.alloc o)

theorem isB_lt {B b : Nat} {bs : List Value} {w : World} (h : Lib.IsBuilderF 48 5 B b bs w) : b < w.heap.size := by
  rcases h with h | h
  · exact h.lt
  · exact h.lt

/-- the copy of a token that a round has laid stands behind the builder's writing -/
theorem kept_tok {b : Nat} {W w' : World} {x y z : Value} (hk : Lib.OthersKept 5 (some b) (W.alloc (.cells #[x, y, z] 37)) w') (hb : b < W.heap.size) :
    w'.cell? ⟨W.heap.size, 1, none⟩ = some y := by
  have h := hk W.heap.size (.cells #[x, y, z] 37) (heap_alloc_new W _) (by simp; omega) (by intro c fz; simp)
  rw [Lib.cell_of_heap h]; rfl

theorem tok_cells {a : Option Addr} {ts : List M.Tok} {w : World} (h3 : ts = [] ∨ ∃ b o, a = some ⟨b, o, none⟩ ∧ b < w.heap.size ∧ ∀ i (h : i < ts.length),
      w.cell? ⟨b, o + i * 3, none⟩ = some (.int .i64 ts[i].k) ∧ w.cell? ⟨b, o + i * 3 + 1, none⟩ = some (.string ts[i].t) ∧ w.cell? ⟨b, o + i * 3 + 2, none⟩ = some (.int .i64 ts[i].p)) (j : Nat) (hj : j < ts.length) :
    ∃ b o, a = some ⟨b, o, none⟩ ∧ b < w.heap.size ∧ w.cell? ⟨b, o + j * 3, none⟩ = some (.int .i64 ts[j].k) ∧ w.cell? ⟨b, o + j * 3 + 1, none⟩ = some (.string ts[j].t) ∧ w.cell? ⟨b, o + j * 3 + 2, none⟩ = some (.int .i64 ts[j].p) := by
  rcases h3 with rfl | ⟨b, o, ha, hb, hc⟩
  · simp at hj
  · exact ⟨b, o, ha, hb, hc j hj⟩

set_option maxHeartbeats 1000000 in
theorem print_any (v : Value) (ts : List M.Tok) (w : World) (h : TokAt w v ts) (hlen : (M.print ts).length ≤ 140737488355328) :
    Calls Try.prog 12 #[v] w fun e w' => e = .returned (.string ⟨(M.print ts).toArray⟩) ∧ Below w.heap.size w w' := by
  cases hmay : M.may ts
  · have HM : Hid (M.may ts = false) := hmay
    go_enter Try.func12, Try.ntmps12
    go_wp2_with (go_at_call 13; refine (may_any v ts _ h).mono ?_; rintro e w' ⟨rfl, hb⟩)
    go_ret
    exact ⟨ret_str (by rw [M.print, HM.out]; rfl), hb⟩
  · have HM : Hid (M.may ts = true) := hmay
    have hpl : (M.prn ts).length ≤ 140737488355328 := by rw [M.print, if_pos hmay] at hlen; exact hlen
    clear hlen
    have h' := h
    obtain ⟨h1, h2, a, cap, rfl, h3⟩ := h'
    have H3 := hid h3
    clear h3
    go_enter Try.func12, Try.ntmps12
    go_wp2_with (go_at_call 13; refine (may_any _ ts _ h).mono ?_; rintro e w1 ⟨rfl, hb⟩)
    have hsz := hb.size
    clear hmay
    go_loopw [11] (fun i w' => ∃ j : Nat, j ≤ ts.length ∧ i = .int .i64 j ∧ Below w.heap.size w w' ∧ Lib.IsBuilderF 48 5 w.heap.size w1.heap.size (Lib.byteCells (M.prn (ts.take j))) w') (fun i _ => ts.length - (intOf i).toNat)
    case atStart =>
      refine ⟨0, Nat.zero_le _, rfl, hb.alloc hsz _, .inl ⟨hsz, .slice none 0 0, heap_alloc_new w1 _, World.ownsRowF_nil _ _ _ _, by simp [Value.ownBlock]⟩⟩
    case round =>
      obtain ⟨j, hj, rfl, hbw, hbu⟩ := hrel
      by_cases hjl : j < ts.length
      · obtain ⟨b, o, rfl, hlt, c1, c2, c3⟩ := tok_cells H3.out j hjl
        rw [← hbw.cell (p := ⟨b, o + j * 3, none⟩) hlt] at c1
        rw [← hbw.cell (p := ⟨b, o + j * 3 + 1, none⟩) hlt] at c2
        rw [← hbw.cell (p := ⟨b, o + j * 3 + 2, none⟩) hlt] at c3
        have hz := hbw.size
        have hbl := isB_lt hbu
        have hle := M.prn_take_le ts (j + 1)
        by_cases h0 : 0 < j
        · have hst := M.prn_step ts j hjl h0
          have hln : (M.prn (ts.take (j + 1))).length = (M.prn (ts.take j)).length + 1 + ts[j].t.size := by rw [hst]; simp; omega
          have HS := hid hst
          clear hst
          have HLn := hid hln
          clear hln
          go_wp2_with (go_at_call 27; refine (writeByte_k w.heap.size w1.heap.size _ 32 _ (isB_alloc hbu _) ?_ ?_).mono ?_)
          · rw [Lib.byteCells_length]; have := HLn.out; omega
          · simp; omega
          rintro e w2 ⟨rfl, hB2, hb2, hk2⟩
          have d1 := kept_tok hk2 hbl
          go_wp2_with (go_at_call 28; refine (writeString_k w.heap.size w1.heap.size _ _ _ (.inr hB2) ?_ ?_).mono ?_)
          · simp only [List.length_append, Lib.byteCells_length, List.length_cons, List.length_nil]; have := HLn.out; omega
          · have := hb2.size; simp at this; omega
          rintro e w3 ⟨rfl, hB3, hb3, hk3⟩
          go_wp2
          refine ⟨⟨j + 1, by omega, by go_num, ?_, ?_⟩, by simp [intOf]; omega⟩
          · exact ((hbw.alloc hz _).trans hb2).trans hb3
          · rw [HS.out]
            refine .inr ?_
            have e : Lib.byteCells (M.prn (List.take j ts) ++ [32] ++ ts[j].t.data.toList) = Lib.byteCells (M.prn (List.take j ts)) ++ [Value.int .u8 32] ++ Lib.strCells ts[j].t := by
              rw [Lib.byteCells_append, Lib.byteCells_append]; rfl
            rw [e]; exact hB3
        · have hst := M.prn_step0 ts j hjl h0
          have hln : (M.prn (ts.take (j + 1))).length = (M.prn (ts.take j)).length + ts[j].t.size := by rw [hst]; simp
          have HS := hid hst
          clear hst
          have HLn := hid hln
          clear hln
          go_wp2_with (go_at_call 28; refine (writeString_k w.heap.size w1.heap.size _ _ _ (isB_alloc hbu _) ?_ ?_).mono ?_)
          · rw [Lib.byteCells_length]; have := HLn.out; omega
          · simp; omega
          rintro e w3 ⟨rfl, hB3, hb3, hk3⟩
          go_wp2
          refine ⟨⟨j + 1, by omega, by go_num, ?_, ?_⟩, by simp [intOf]; omega⟩
          · exact (hbw.alloc hz _).trans hb3
          · rw [HS.out]
            refine .inr ?_
            have e : Lib.byteCells (M.prn (List.take j ts) ++ ts[j].t.data.toList) = Lib.byteCells (M.prn (List.take j ts)) ++ Lib.strCells ts[j].t := by
              rw [Lib.byteCells_append]; rfl
            rw [e]; exact hB3
      · go_wp2_with (go_at_call 29; refine (Try.Builder_String_any_k w.heap.size w1.heap.size _ _ hbu ?_).mono ?_)
        · exact hbw.size
        rintro e w3 ⟨rfl, hB3, hb3, hk3⟩
        go_wp2
        go_ret
        refine ⟨ret_str ?_, hbw.trans hb3⟩
        rw [M.print, if_pos HM.out, List.take_of_length_le (by omega)]
end Go.Proofs.Ytilkkopgbdppjaa
