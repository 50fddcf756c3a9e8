/-
  PROVED: the law LexReads holds for every string: what tokens its bytes are, and where they are none first, package lex answers as the document's own reading does; the call returns true and leaves all that was there as it was. Conditions: none beyond the given statement's own.
-/
import Derived.Test.YtilkkopgbdppjaaI
import Derived.ProofKit
import Derived.OpenShut
import Derived.ShutString
set_option linter.unusedVariables false
namespace Go.Proofs.Ytilkkopgbdppjaa
open Go.ChangeShapes Go.WideShapes Go.ChangeAt Go.RowKit
open Go.ChangeMaps (open_string shut_string)

namespace LexReads

theorem rLexAt (s : ByteArray) (l : List UInt8) (r : List M.Tok × Int × Int) (w : World) (hs : s.size ≤ maxLen) (hl : s.data.toList = l) (hr : M.lex l = r) :
    Calls Try.prog 9 #[.string s] w fun e w' => ∃ v, e = .returned (.tuple #[v, .agg #[.int .i64 r.2.1, .int .i64 r.2.2]]) ∧ w'.ownsRow w.heap.size 37 3 v r.1.length (M.row r.1) ∧ Below w.heap.size w w' := by
  subst hl hr; exact rLex_any s w hs

/-- two cells of a new block, behind whatever keeps it -/
theorem two_cells {w w' : World} {x y : Value} {t : TypeId} (h : Below (w.heap.size + 1) (w.alloc (.cells #[x, y] t)) w') :
    w'.cell? ⟨w.heap.size, 0, none⟩ = some x ∧ w'.cell? ⟨w.heap.size, 1, none⟩ = some y := by
  have hn := heap_alloc_new w (.cells #[x, y] t)
  refine ⟨?_, ?_⟩
  · rw [h.cell (p := ⟨w.heap.size, 0, none⟩) (Nat.lt_succ_self _), Lib.cell_of_heap hn]; rfl
  · rw [h.cell (p := ⟨w.heap.size, 1, none⟩) (Nat.lt_succ_self _), Lib.cell_of_heap hn]; rfl

set_option maxHeartbeats 1000000 in
theorem walk (a0 : ByteArray) (h0 : a0.size ≤ maxLen) (w : World) :
    Calls Try.prog 3 #[.string a0] w fun e w' => e = .returned (.bool true) ∧ Below w.heap.size w w' := by
  obtain ⟨ts, c, p, hr⟩ : ∃ ts c p, M.lex a0.data.toList = (ts, c, p) := ⟨_, _, _, rfl⟩
  have HR := hid hr
  obtain ⟨hn1, hn2⟩ := M.lex_small a0.data.toList
  rw [hr] at hn1 hn2
  have HS : Hid (∀ x, x ∈ ts → x.t.size ≤ maxLen) := fun x hx => by have := hn2 x hx; unfold maxLen; omega
  have hn : ts.length ≤ 65536 := hn1
  clear hr hn1 hn2
  have hs25 := stood25
  have hg25 := guard25
  have heq := fun a b c d w' => eq25 a b c d w'
  go_enter Try.func3, Try.ntmps3
  go_wp2_with fail
  refine (lexAt _ _ _ _ h0 rfl HR.out).mono ?_
  rintro e w1 ⟨v1, rfl, hown1, hb1⟩
  go_wp2_with fail
  refine (rLexAt _ _ _ _ h0 rfl HR.out).mono ?_
  rintro e w2 ⟨v2, rfl, hown2, hb2⟩
  go_wp2_with fail
  refine (fixed_any _).mono ?_
  rintro e w3 ⟨rfl, hb3⟩
  have z1 := hb1.size
  have z2 := hb2.size
  have z3 := hb3.size
  simp only [World.size_alloc] at z2 z3 hb2 hb3
  have hb13 : Below (w1.heap.size + 1) (w1.alloc (.cells #[.int .i64 c, .int .i64 p] 25)) w3 := hb2.trans (((Below.refl _ _).alloc (by omega) _).trans (hb3.mono (by omega)))
  have k1 : Below w1.heap.size w1 w3 := ((Below.refl _ _).alloc (Nat.le_refl _) _).trans (hb13.mono (Nat.le_succ _))
  have k2 : Below w2.heap.size w2 w3 := ((Below.refl _ _).alloc (Nat.le_refl _) _).trans (hb3.mono (Nat.le_succ _))
  have T1 : TokAt w3 v1 ts := (tokAt_of_owns hown1 (by omega) HS.out).keep k1
  have T2 : TokAt w3 v2 ts := (tokAt_of_owns hown2 (by omega) HS.out).keep k2
  obtain ⟨q1, q2⟩ := two_cells hb13
  obtain ⟨q3, q4⟩ := two_cells hb3
  clear hown1 hown2
  go_wp2_with fail
  refine (same_any _ _ ts ts _ T1 T2).mono ?_
  rw [(M.same_iff _ _).2 rfl]
  rintro e w4 ⟨rfl, n, rfl⟩
  go_wp2
  go_ret
  refine ⟨rfl, below_drewN (hb1.trans (k1.mono z1)) n⟩

theorem own : ownKnob Try.prog.godebug = none := by kernel_rfl

set_option maxRecDepth 100000 in
theorem lifted (os : Os) (started : os.Started) (H : Type) (enc : TypeId × Value → H) :
    ReturnsInHanded {} Try.checked os 3 .any (Rows.lexReadsSpec.pre6 enc Try.prog Try.f3 Rows.lexReadsRow.domain false) (Rows.lexReadsSpec.post enc Try.prog Try.f3 false true false false) := by
  refine returnsInHanded_of_change (C := Try.checked) own started (by kernel_rfl) Try.func3
    (ChangeSpec.witness6 (enc := enc) (C := Try.checked) false ⟨#[], #[.string ByteArray.empty], []⟩ 8 (by kernel_rfl) (by kernel_rfl) (by kernel_rfl) (by kernel_rfl)) ?_
  intro W base args ds gs before hval0 hW _ _
  have hval : ∀ (j : Nat) t v, Try.f3.params[j]? = some t → args[j]? = some v → Value.okWide Try.prog W .any base t v := hval0
  have hW' := hW
  obtain ⟨p, q, hA0, hV, rfl, hfz, hnd⟩ := hW
  have hA : DataW.TrodAll enc Try.prog W 0 (fun _ => true) true Try.f3.params.toList args.toList ds p := hA0
  rw [Try.params3] at hA hval
  obtain ⟨v0, vs0, d0, ds0, p0, q0, hargs, rfl, rfl, h0, r0⟩ := trodAll_cons hA
  obtain ⟨rfl, rfl, rfl⟩ := trodAll_nil r0
  obtain rfl : args = #[v0] := by cases args; simp_all
  obtain ⟨rfl, rfl⟩ := trodVars_none hV
  obtain ⟨a0, rfl, rfl, rfl, w0⟩ := open_string Try.underlying9 (hval 0 9 v0 rfl rfl) h0
  clear hA0 hval0
  simp only [List.append_nil] at hW'
  refine (walk a0 w0 W).mono fun e W' ⟨he, hb⟩ => ?_
  subst he
  exact ⟨_, rfl, _, _, _, [], [], [], hW', trodAll_cons_mk (shut_bool Try.underlying4 _) trodAll_mk0, trodAll_cons_mk (shut_string Try.underlying9 w0) trodAll_mk0, rfl, hb.frame _, fun h => by cases h⟩

theorem proved : Rows.LexReadsSaid :=
  OpenClaim.holds_of_wide 3 Try.f3 rfl rfl rfl rfl rfl rfl rfl ⟨rfl, rfl, rfl, rfl, rfl⟩ rfl rfl rfl rfl rfl (by kernel_rfl) Try.func3 (by kernel_rfl)
    (of_decide_eq_true (by kernel_rfl)) (by unfold Func.isWrapper; first | (rw [if_pos (by decide +kernel)]; kernel_rfl) | (rw [if_neg (by decide +kernel)]; exact ⟨rfl, rfl⟩))
    (fun os started H enc _ => lifted os started H enc)
end LexReads

theorem lexReads_holds : Rows.LexReadsSaid := LexReads.proved
end Go.Proofs.Ytilkkopgbdppjaa
