/-
  Lists of tokens in memory, and the walks of lex.May, proteanref01.Same and proteanref01.Plain over them.
-/
import Derived.Test.YtkonkdhoakcmdaaGreatDoorLB
import Derived.Deep.AppendLies
import Derived.Laws.StructEq
set_option linter.unusedVariables false
namespace Go.Proofs.YtkonkdhoakcmdaaGreatDoor
open Go.RowKit

/-- the slice v holds the tokens ts in the world w -/
def TokAt (w : World) (v : Value) (ts : List M.Tok) : Prop :=
  ts.length ≤ 140737488355328 ∧ (∀ x, x ∈ ts → x.t.size ≤ maxLen) ∧ ∃ a cap, v = .slice a ts.length cap ∧
    (ts = [] ∨ ∃ b o, a = some ⟨b, o, none⟩ ∧ b < w.heap.size ∧ ∀ i (h : i < ts.length),
      w.cell? ⟨b, o + i * 3, none⟩ = some (.int .i64 ts[i].k) ∧ w.cell? ⟨b, o + i * 3 + 1, none⟩ = some (.string ts[i].t) ∧ w.cell? ⟨b, o + i * 3 + 2, none⟩ = some (.int .i64 ts[i].p))

theorem TokAt.below {w w' : World} {B : Nat} {v : Value} {ts : List M.Tok} (h : TokAt w v ts) (hb : Below B w w') (hB : ∀ b o n c, v = .slice (some ⟨b, o, none⟩) n c → b < B) : TokAt w' v ts := by
  obtain ⟨h1, h2, a, cap, rfl, h3⟩ := h
  refine ⟨h1, h2, a, cap, rfl, ?_⟩
  rcases h3 with h3 | ⟨b, o, rfl, hlt, hc⟩
  · exact .inl h3
  · have hbB := hB b o _ _ rfl
    refine .inr ⟨b, o, rfl, Nat.lt_of_lt_of_le hlt hb.size, fun i hi => ?_⟩
    obtain ⟨c1, c2, c3⟩ := hc i hi
    exact ⟨by rw [hb.cell (p := ⟨b, o + i * 3, none⟩) hbB]; exact c1, by rw [hb.cell (p := ⟨b, o + i * 3 + 1, none⟩) hbB]; exact c2, by rw [hb.cell (p := ⟨b, o + i * 3 + 2, none⟩) hbB]; exact c3⟩

theorem bcell {B : Nat} {W w1 : World} (hb : Below B W w1) : (∀ b o, b < B → w1.cell? ⟨b, o, none⟩ = W.cell? ⟨b, o, none⟩) ∧ (∀ b o, b < B → w1.frozen? ⟨b, o, none⟩ = W.frozen? ⟨b, o, none⟩) :=
  ⟨fun b o h => hb.cell (p := ⟨b, o, none⟩) h, fun b o h => hb.frozen (p := ⟨b, o, none⟩) h⟩

set_option maxHeartbeats 400000 in
theorem may_any (v : Value) (ts : List M.Tok) (w : World) (h : TokAt w v ts) :
    Calls Tryz.prog 48 #[v] w fun e w' => e = .returned (.bool (M.may ts)) ∧ Below w.heap.size w w' := by
  obtain ⟨h1, h2, a, cap, rfl, h3⟩ := h
  rcases h3 with rfl | ⟨b, o, rfl, hlt, hc⟩
  · go_enter Tryz.func48, Tryz.ntmps48
    go_wp2
    go_loop [7] (fun i => i = .int .i64 0) (fun _ => 0)
    case atStart => rfl
    case round =>
      subst hrel
      go_wp2
      go_ret
      exact ⟨rfl, Below.refl _ _⟩
  · go_enter Tryz.func48, Tryz.ntmps48
    go_wp2
    go_loopw [7] (fun i w' => ∃ j : Nat, j ≤ ts.length ∧ i = .int .i64 j ∧ (ts.take j).all M.may1 = true ∧ Below w.heap.size w w') (fun i _ => ts.length - (intOf i).toNat)
    case atStart => exact ⟨0, Nat.zero_le _, rfl, rfl, Below.refl _ _⟩
    case round =>
      obtain ⟨j, hj, rfl, hm, hb⟩ := hrel
      by_cases hjl : j < ts.length
      · obtain ⟨c1, c2, c3⟩ := hc j hjl
        rw [← hb.cell (p := ⟨b, o + j * 3, none⟩) hlt] at c1
        rw [← hb.cell (p := ⟨b, o + j * 3 + 1, none⟩) hlt] at c2
        rw [← hb.cell (p := ⟨b, o + j * 3 + 2, none⟩) hlt] at c3
        cases hm1 : M.may1 ts[j]
        · have HM : Hid (M.may1 ts[j] = false) := hm1
          go_wp2_with (go_at_call 62; refine (mayBe_any ts[j] _ (h2 _ (List.getElem_mem hjl))).mono ?_; rintro e w' ⟨rfl, hb2⟩)
          go_ret
          refine ⟨ret_bool (M.all_false _ _ j hjl HM.out).symm, ?_⟩
          exact (hb.alloc hb.size _).trans (hb2.mono (by simp; have := hb.size; omega))
        · have HM : Hid (M.may1 ts[j] = true) := hm1
          go_wp2_with (go_at_call 62; refine (mayBe_any ts[j] _ (h2 _ (List.getElem_mem hjl))).mono ?_; rintro e w' ⟨rfl, hb2⟩)
          refine ⟨⟨j + 1, by omega, by go_num, ?_, ?_⟩, by simp [intOf]; omega⟩
          · rw [M.all_take_succ _ _ _ hjl, hm, HM.out]; rfl
          · exact (hb.alloc hb.size _).trans (hb2.mono (by simp; have := hb.size; omega))
      · have HM : Hid ((ts.take j).all M.may1 = true) := hm
        clear hm
        go_wp2
        go_ret
        refine ⟨ret_bool ?_, hb⟩
        have := HM.out
        rw [List.take_of_length_le (by omega)] at this
        exact this.symm

theorem drewN_drewN (w : World) (a b : Nat) : (w.drewN a).drewN b = w.drewN (a + b) := by simp [World.drewN, Nat.add_assoc]

theorem stood37 : Tryz.prog.stoodInHeld 69 = false := by kernel_rfl
theorem guard37 : Tryz.prog.eqGuardType Tryz.prog.depth 69 = false := by kernel_rfl
theorem stood25 : Tryz.prog.stoodInHeld 28 = false := by kernel_rfl
theorem guard25 : Tryz.prog.eqGuardType Tryz.prog.depth 28 = false := by kernel_rfl

theorem toList_inj {a b : ByteArray} : a.toList = b.toList ↔ a = b := by
  rw [ByteArray.toList_eq, ByteArray.toList_eq]; exact ⟨M.bytes_ext, fun h => by rw [h]⟩

theorem neq_tok (x y : M.Tok) (w : World) : (binOp .neq 69 (.agg #[.int .i64 x.k, .string x.t, .int .i64 x.p]) (.agg #[.int .i64 y.k, .string y.t, .int .i64 y.p])).run Tryz.prog w = .ok (.bool (!x.eqB y)) w := by
  rw [run_neq_struct, run_equalIn_agg _ _ _ _ _ (by kernel_rfl) stood37]
  simp [go_sem]
  by_cases h1 : x.k = y.k <;> by_cases h2 : x.t = y.t <;> by_cases h3 : x.p = y.p <;> simp [h1, h2, h3, toList_inj, M.Tok.eqB]

end Go.Proofs.YtkonkdhoakcmdaaGreatDoor
