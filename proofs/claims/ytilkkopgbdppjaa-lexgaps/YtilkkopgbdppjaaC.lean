/-
  Lists of tokens in memory, and the walks of lex.May, proteanref01.Same and proteanref01.Plain over them.
-/
import Derived.Test.YtilkkopgbdppjaaB
import Derived.Deep.AppendLies
import Derived.Laws.StructEq
set_option linter.unusedVariables false
namespace Go.Proofs.Ytilkkopgbdppjaa
open Go.RowKit

/-- the slice v holds the tokens ts in the world w -/
def TokAt (w : World) (v : Value) (ts : List M.Tok) : Prop :=
  ts.length ≤ 140737488355328 ∧ (∀ x, x ∈ ts → x.t.size ≤ maxLen) ∧ ∃ a cap, v = .slice a ts.length cap ∧
    (ts = [] ∨ ∃ b o, a = some ⟨b, o, none⟩ ∧ b < w.heap.size ∧ ∀ i (h : i < ts.length),
      w.cell? ⟨b, o + i * 3, none⟩ = some (.int .i64 ts[i].k) ∧ w.cell? ⟨b, o + i * 3 + 1, none⟩ = some (.string ts[i].t) ∧ w.cell? ⟨b, o + i * 3 + 2, none⟩ = some (.int .i64 ts[i].p))

theorem TokAt.below {w w' : World} {B : Nat} {v : Value} {ts : List M.Tok} (h : TokAt w v ts) (hb : Below B w w') (hB : ∀ b o n c, v = .slice (some ⟨b, o, none⟩) n c → b < B) : TokAt w' v ts := by
  obtain ⟨h1, h2, a, cap, rfl, h3⟩ := h
  refine ⟨h1, h2, a, cap, rfl, ?_⟩
  rcases h3 with h3 | ⟨b, o, rfl, hlt, hc⟩
  · exact .inl h3
  · have hbB := hB b o _ _ rfl
    refine .inr ⟨b, o, rfl, Nat.lt_of_lt_of_le hlt hb.size, fun i hi => ?_⟩
    obtain ⟨c1, c2, c3⟩ := hc i hi
    exact ⟨by rw [hb.cell (p := ⟨b, o + i * 3, none⟩) hbB]; exact c1, by rw [hb.cell (p := ⟨b, o + i * 3 + 1, none⟩) hbB]; exact c2, by rw [hb.cell (p := ⟨b, o + i * 3 + 2, none⟩) hbB]; exact c3⟩

theorem bcell {B : Nat} {W w1 : World} (hb : Below B W w1) : (∀ b o, b < B → w1.cell? ⟨b, o, none⟩ = W.cell? ⟨b, o, none⟩) ∧ (∀ b o, b < B → w1.frozen? ⟨b, o, none⟩ = W.frozen? ⟨b, o, none⟩) :=
  ⟨fun b o h => hb.cell (p := ⟨b, o, none⟩) h, fun b o h => hb.frozen (p := ⟨b, o, none⟩) h⟩

set_option maxHeartbeats 400000 in
theorem may_any (v : Value) (ts : List M.Tok) (w : World) (h : TokAt w v ts) :
    Calls Try.prog 13 #[v] w fun e w' => e = .returned (.bool (M.may ts)) ∧ Below w.heap.size w w' := by
  obtain ⟨h1, h2, a, cap, rfl, h3⟩ := h
  rcases h3 with rfl | ⟨b, o, rfl, hlt, hc⟩
  · go_enter Try.func13, Try.ntmps13
    go_wp2
    go_loop [7] (fun i => i = .int .i64 0) (fun _ => 0)
    case atStart => rfl
    case round =>
      subst hrel
      go_wp2
      go_ret
      exact ⟨rfl, Below.refl _ _⟩
  · go_enter Try.func13, Try.ntmps13
    go_wp2
    go_loopw [7] (fun i w' => ∃ j : Nat, j ≤ ts.length ∧ i = .int .i64 j ∧ (ts.take j).all M.may1 = true ∧ Below w.heap.size w w') (fun i _ => ts.length - (intOf i).toNat)
    case atStart => exact ⟨0, Nat.zero_le _, rfl, rfl, Below.refl _ _⟩
    case round =>
      obtain ⟨j, hj, rfl, hm, hb⟩ := hrel
      by_cases hjl : j < ts.length
      · obtain ⟨c1, c2, c3⟩ := hc j hjl
        rw [← hb.cell (p := ⟨b, o + j * 3, none⟩) hlt] at c1
        rw [← hb.cell (p := ⟨b, o + j * 3 + 1, none⟩) hlt] at c2
        rw [← hb.cell (p := ⟨b, o + j * 3 + 2, none⟩) hlt] at c3
        cases hm1 : M.may1 ts[j]
        · have HM : Hid (M.may1 ts[j] = false) := hm1
          go_wp2_with (go_at_call 30; refine (mayBe_any ts[j] _ (h2 _ (List.getElem_mem hjl))).mono ?_; rintro e w' ⟨rfl, hb2⟩)
          go_ret
          refine ⟨ret_bool (M.all_false _ _ j hjl HM.out).symm, ?_⟩
          exact (hb.alloc hb.size _).trans (hb2.mono (by simp; have := hb.size; omega))
        · have HM : Hid (M.may1 ts[j] = true) := hm1
          go_wp2_with (go_at_call 30; refine (mayBe_any ts[j] _ (h2 _ (List.getElem_mem hjl))).mono ?_; rintro e w' ⟨rfl, hb2⟩)
          refine ⟨⟨j + 1, by omega, by go_num, ?_, ?_⟩, by simp [intOf]; omega⟩
          · rw [M.all_take_succ _ _ _ hjl, hm, HM.out]; rfl
          · exact (hb.alloc hb.size _).trans (hb2.mono (by simp; have := hb.size; omega))
      · have HM : Hid ((ts.take j).all M.may1 = true) := hm
        clear hm
        go_wp2
        go_ret
        refine ⟨ret_bool ?_, hb⟩
        have := HM.out
        rw [List.take_of_length_le (by omega)] at this
        exact this.symm

theorem drewN_drewN (w : World) (a b : Nat) : (w.drewN a).drewN b = w.drewN (a + b) := by simp [World.drewN, Nat.add_assoc]

theorem stood37 : Try.prog.stoodInHeld 37 = false := by kernel_rfl
theorem guard37 : Try.prog.eqGuardType Try.prog.depth 37 = false := by kernel_rfl
theorem stood25 : Try.prog.stoodInHeld 25 = false := by kernel_rfl
theorem guard25 : Try.prog.eqGuardType Try.prog.depth 25 = false := by kernel_rfl

theorem toList_inj {a b : ByteArray} : a.toList = b.toList ↔ a = b := by
  rw [ByteArray.toList_eq, ByteArray.toList_eq]; exact ⟨M.bytes_ext, fun h => by rw [h]⟩

theorem neq_tok (x y : M.Tok) (w : World) : (binOp .neq 37 (.agg #[.int .i64 x.k, .string x.t, .int .i64 x.p]) (.agg #[.int .i64 y.k, .string y.t, .int .i64 y.p])).run Try.prog w = .ok (.bool (!x.eqB y)) w := by
  rw [run_neq_struct, run_equalIn_agg _ _ _ _ _ (by kernel_rfl) stood37]
  simp [go_sem]
  by_cases h1 : x.k = y.k <;> by_cases h2 : x.t = y.t <;> by_cases h3 : x.p = y.p <;> simp [h1, h2, h3, toList_inj, M.Tok.eqB]

set_option maxHeartbeats 400000 in
theorem same_any (v1 v2 : Value) (t1 t2 : List M.Tok) (w : World) (h1 : TokAt w v1 t1) (h2 : TokAt w v2 t2) :
    Calls Try.prog 11 #[v1, v2] w fun e w' => e = .returned (.bool (M.same t1 t2)) ∧ ∃ n, w' = w.drewN n := by
  obtain ⟨l1, _, a1, cap1, rfl, g1⟩ := h1
  obtain ⟨l2, _, a2, cap2, rfl, g2⟩ := h2
  by_cases hl : t1.length = t2.length
  · have hd : ((t1.length : Int) != (t2.length : Int)) = false := by simp [hl]
    rcases g1 with rfl | ⟨b1, o1, rfl, hlt1, hc1⟩
    · obtain rfl : t2 = [] := by cases t2 with | nil => rfl | cons _ _ => simp at hl
      go_enter Try.func11, Try.ntmps11
      go_wp2
      go_loop [5] (fun i => i = .int .i64 0) (fun _ => 0)
      case atStart => rfl
      case round =>
        subst hrel
        go_wp2
        go_ret
        exact ⟨rfl, 0, rfl⟩
    · rcases g2 with rfl | ⟨b2, o2, rfl, hlt2, hc2⟩
      · obtain rfl : t1 = [] := by cases t1 with | nil => rfl | cons _ _ => simp at hl
        go_enter Try.func11, Try.ntmps11
        go_wp2
        go_loop [5] (fun i => i = .int .i64 0) (fun _ => 0)
        case atStart => rfl
        case round =>
          subst hrel
          go_wp2
          go_ret
          exact ⟨rfl, 0, rfl⟩
      · have HL : Hid (t1.length = t2.length) := hl
        clear hl
        go_enter Try.func11, Try.ntmps11
        go_wp2
        go_loopw [5] (fun i w' => ∃ j : Nat, j ≤ t1.length ∧ i = .int .i64 j ∧ t1.take j = t2.take j ∧ ∃ n, w' = w.drewN n) (fun i _ => t1.length - (intOf i).toNat)
        case atStart => exact ⟨0, Nat.zero_le _, rfl, rfl, 0, rfl⟩
        case round =>
          obtain ⟨j, hj, rfl, hm, n, rfl⟩ := hrel
          have HM : Hid (t1.take j = t2.take j) := hm
          clear hm
          by_cases hjl : j < t1.length
          · obtain ⟨c1, c2, c3⟩ := hc1 j hjl
            have hjl2 : j < t2.length := by have := HL.out; omega
            obtain ⟨d1, d2, d3⟩ := hc2 j hjl2
            have hs37 := stood37
            have hg37 := guard37
            cases heq : t1[j].eqB t2[j]
            · have hne := fun w' => neq_tok t1[j] t2[j] w'
              simp only [heq, Bool.not_false] at hne
              have HE : Hid (¬ t1[j] = t2[j]) := fun h => by rw [(M.eqB_iff _ _).2 h] at heq; cases heq
              clear heq
              go_wp2_with fail
              go_quiet (fail)
              go_wp2
              go_ret
              refine ⟨ret_bool (M.same_ne ?_).symm, _, drewN_drewN _ _ _⟩
              intro h; subst h; exact HE.out rfl
            · have hne := fun w' => neq_tok t1[j] t2[j] w'
              simp only [heq, Bool.not_true] at hne
              have HE : Hid (t1[j] = t2[j]) := (M.eqB_iff _ _).1 heq
              clear heq
              go_wp2_with fail
              go_quiet (fail)
              go_wp2
              refine ⟨⟨j + 1, by omega, by go_num, ?_, _, rfl⟩, by simp [intOf]; omega⟩
              rw [List.take_succ_eq_append_getElem hjl, List.take_succ_eq_append_getElem hjl2, HM.out, HE.out]
          · go_wp2
            go_ret
            refine ⟨ret_bool ((M.same_iff _ _).2 ?_).symm, _, rfl⟩
            have := HM.out
            rw [List.take_of_length_le (by omega), List.take_of_length_le (by have := HL.out; omega)] at this
            exact this
  · have hd : ((t1.length : Int) != (t2.length : Int)) = true := by simp; omega
    have HN : Hid (t1 ≠ t2) := fun h => hl (by rw [h])
    clear hl
    go_enter Try.func11, Try.ntmps11
    go_wp2
    go_ret
    exact ⟨ret_bool (M.same_ne HN.out).symm, 0, rfl⟩
end Go.Proofs.Ytilkkopgbdppjaa
