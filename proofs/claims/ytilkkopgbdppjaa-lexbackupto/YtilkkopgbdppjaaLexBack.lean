/-
  PROVED: the law LexBack holds for every list of tokens and every string that hold together at most 1048576 values and letters: tokens that may be are read from their print as they were, but for their places (prints of at most 65536 bytes); what is read may be, and printed and read again it is the same; the call returns true and leaves all that was there as it was. Conditions: the bound of the given second statement (LexBackUptoSaid), none besides.
-/
import Derived.Test.YtilkkopgbdppjaaLexBackWalk
import Derived.ProofKit
import Derived.OpenShut
import Derived.ShutString
import Derived.JoinedCond
import Derived.Deep.Slices
import Derived.Deep.Strs
set_option linter.unusedVariables false
namespace Go.Proofs.Ytilkkopgbdppjaa
open Go.ChangeShapes Go.WideShapes Go.ChangeAt Go.RowKit
open Go.ChangeMaps (open_string shut_string)
open Go.Deep (open_slice choose_lt add_add)

namespace LexBack

theorem own : ownKnob Try.prog.godebug = none := by kernel_rfl
theorem laidOut : laidOutB Try.prog = true := by kernel_rfl
theorem cells37 : Try.prog.cellsOf 37 = 3 := by kernel_rfl
theorem cells3 : Try.prog.cellsOf 3 = 1 := by kernel_rfl
theorem cells9 : Try.prog.cellsOf 9 = 1 := by kernel_rfl

/-- what a token reads as -/
def datum {H : Type} (x : M.Tok) : DataW H := .agg [.lit (.int .i64 x.k), .lit (.string x.t.data.toList), .lit (.int .i64 x.p)]

theorem datum_bulk {H : Type} (x : M.Tok) : Rows.uptoBulk (datum (H := H) x) = x.t.size + 4 := by
  simp only [datum, Rows.uptoBulk, Rows.uptoBulkAll]
  have : x.t.data.toList.length = x.t.size := len_list x.t
  omega

theorem bulk_toks {H : Type} (ts : List M.Tok) : ts.length + (M.prnT ts).length ≤ Rows.uptoBulkAll (ts.map (datum (H := H))) := by
  induction ts with
  | nil => simp [M.prnT, Rows.uptoBulkAll]
  | cons x r ih =>
    have e : (M.prnT (x :: r)).length = x.t.size + 1 + (M.prnT r).length := by simp [M.prnT]; omega
    simp only [List.map_cons, Rows.uptoBulkAll, datum_bulk, List.length_cons, e]
    omega

theorem prn_le_prnT (ts : List M.Tok) : (M.prn ts).length ≤ (M.prnT ts).length := by
  cases ts with
  | nil => simp [M.prn]
  | cons x r => simp [M.prn, M.prnT]

/-- the list of tokens that came in, as it lies in memory -/
theorem toks_of_trod {H : Type} {enc : TypeId × Value → H} {W : World} {fuel : Nat} {v : Value} {d : DataW H} {p : List MemPlace}
    (hf : DataW.trod enc Try.prog W 0 (fun _ => true) true fuel 22 [v] = some (d, p)) (hk : Rows.uptoBulk d ≤ 1048576) :
    ∃ ts, TokAt W v ts ∧ ts.length ≤ 4398046511104 ∧ (M.print ts).length ≤ 140737488355328 := by
  rcases open_slice Try.underlying22 hf with ⟨hcs, hx⟩ | ⟨a, len, cap, m, n, D, Pl, hcs, _, hl, hm, hmm, hx, hel⟩
  · simp only [List.cons.injEq, and_true] at hcs
    subst hcs
    exact ⟨[], ⟨by simp, by simp, none, 0, rfl, .inl rfl⟩, by simp, by simp [M.print, M.may, M.prn]⟩
  · simp only [List.cons.injEq, and_true] at hcs
    subst hcs
    simp only [if_true] at hmm
    have hmc : m = cap := hmm
    clear hmm
    subst hmc
    have each : ∀ i, i < len → ∃ x : Int × ByteArray × Int, W.cell? (a.add (i * 3)) = some (.int .i64 x.1) ∧ W.cell? (a.add (i * 3 + 1)) = some (.string x.2.1) ∧ W.cell? (a.add (i * 3 + 2)) = some (.int .i64 x.2.2) ∧ x.2.1.size ≤ maxLen ∧ D i = datum ⟨x.1, x.2.1, x.2.2⟩ := by
      intro i hi
      obtain ⟨cs', h1, h2⟩ := hel i (by omega)
      rw [cells37] at h1
      obtain ⟨_, hlen, hcell⟩ := World.cells?_some h1
      obtain ⟨y0, y1, y2, n', hxy, _, g0, g1, g2⟩ := Deep.trod_struct3 Try.underlying37 h2
      match cs', hlen with
      | [c0, c1, c2], _ =>
        simp only [cells3, cells9, List.drop_zero, List.drop_succ_cons, List.take_succ_cons, List.take_zero] at g0 g1 g2
        obtain ⟨k0, e0, r0, _⟩ := DataW.trod_int Try.underlying3 g0
        obtain ⟨t1, e1, r1, w1⟩ := DataW.trod_string Try.underlying9 g1
        obtain ⟨k2, e2, r2, _⟩ := DataW.trod_int Try.underlying3 g2
        simp only [List.cons.injEq, and_true] at e0 e1 e2
        subst e0 e1 e2 r0 r1 r2
        have d0 := hcell 0 (by omega)
        have d1 := hcell 1 (by omega)
        have d2 := hcell 2 (by omega)
        rw [add_add] at d0 d1 d2
        simp only [Prod.mk.injEq] at hxy
        exact ⟨(k0, t1, k2), by simpa using d0, by simpa using d1, by simpa using d2, w1, hxy.1⟩
    obtain ⟨X, hX⟩ := choose_lt each
    let T : Nat → M.Tok := fun i => ⟨(X i).1, (X i).2.1, (X i).2.2⟩
    have hmap : (List.range len).map D = ((List.range len).map T).map datum := by
      rw [List.map_map]
      exact List.map_congr_left fun i hi => (hX i (List.mem_range.1 hi)).2.2.2.2
    have hd : d = .slice ((List.range len).map D) ((List.range (m - len)).map fun j => D (len + j)) := by
      simp only [Prod.mk.injEq] at hx; exact hx.1
    have hb : ((List.range len).map T).length + (M.prnT ((List.range len).map T)).length ≤ 1048576 := by
      have h1 := bulk_toks (H := H) ((List.range len).map T)
      rw [← hmap] at h1
      rw [hd] at hk
      simp only [Rows.uptoBulk] at hk
      omega
    have hlenT : ((List.range len).map T).length = len := by simp
    refine ⟨(List.range len).map T, ⟨by omega, ?_, some a, m, by rw [hlenT], ?_⟩, by omega, ?_⟩
    · intro x hx'
      simp only [List.mem_map, List.mem_range] at hx'
      obtain ⟨i, hi, rfl⟩ := hx'
      exact (hX i hi).2.2.2.1
    · rcases Nat.eq_zero_or_pos len with h0 | h0
      · left; subst h0; rfl
      · right
        obtain ⟨b, o, spot⟩ := a
        have hspot : spot = none := by simpa [Addr.add] using World.cell?_spot (hX 0 h0).1
        subst hspot
        have hblk : b < W.heap.size := by
          have := World.block_lt_of_cell? W _ (hX 0 h0).1
          simpa [Addr.add] using this
        refine ⟨b, o, rfl, hblk, fun i hi => ?_⟩
        have hi' : i < len := by rw [hlenT] at hi; exact hi
        have he : ((List.range len).map T)[i] = T i := by simp
        obtain ⟨e1, e2, e3, _, _⟩ := hX i hi'
        rw [add_plain] at e1 e2 e3
        rw [he]
        exact ⟨e1, by rw [Nat.add_assoc]; exact e2, by rw [Nat.add_assoc]; exact e3⟩
    · have h1 := prn_le_prnT ((List.range len).map T)
      have h2 : (M.print ((List.range len).map T)).length ≤ (M.prn ((List.range len).map T)).length := by
        unfold M.print; split
        · exact Nat.le_refl _
        · simp
      omega

theorem contract (H : Type) (enc : TypeId × Value → H) (W : World) (base : Nat) (args : Array Value) (ds gs : List (DataW H)) (before : List MemPlace)
    (hval : ∀ (j : Nat) t v, Try.f4.params[j]? = some t → args[j]? = some v → Value.okWide Try.prog W .any base t v)
    (hW : DataW.Whole enc Try.prog Try.f4.params.toList Rows.lexBackSpec.vars false W args.toList ds gs before) (hk : Rows.uptoSmall H (ds ++ gs) = true) :
    Calls Try.prog 4 args W fun e W' => ∃ v, e = .returned v ∧ Rows.lexBackSpec.post enc Try.prog Try.f4 false true false false W args v W' := by
  have hW' := hW
  obtain ⟨p, q, hA0, hV, rfl, hfz, hnd⟩ := hW
  have hA : DataW.TrodAll enc Try.prog W 0 (fun _ => true) true Try.f4.params.toList args.toList ds p := hA0
  rw [Try.params4] at hA hval
  obtain ⟨v0, vs0, d0, ds0, p0, q0, hargs, rfl, rfl, h0, r0⟩ := trodAll_cons hA
  obtain ⟨v1, vs1, d1, ds1, p1, q1, rfl, rfl, rfl, h1, r1⟩ := trodAll_cons r0
  obtain ⟨rfl, rfl, rfl⟩ := trodAll_nil r1
  obtain rfl : args = #[v0, v1] := by cases args; simp_all
  obtain ⟨rfl, rfl⟩ := trodVars_none hV
  obtain ⟨a1, rfl, rfl, rfl, w1⟩ := open_string Try.underlying9 (hval 1 9 v1 rfl rfl) h1
  obtain ⟨a0, len, cap, rfl⟩ := okWide_slice Try.underlying22 (hval 0 22 v0 rfl rfl)
  clear hA0
  simp only [List.append_nil] at hW' hk
  have hlt : ∀ x ∈ p0, x.block < W.heap.size := fun x hx => by simpa using hW'.lt x (by simpa using hx)
  have hb : Rows.uptoBulkAll [d0, .lit (.string a1.data.toList)] ≤ 1048576 := of_decide_eq_true hk
  have hb0 : Rows.uptoBulk d0 ≤ 1048576 := by
    simp only [Rows.uptoBulkAll] at hb; omega
  have h0k := h0
  obtain ⟨fuel, hf⟩ := h0
  have hf' : DataW.trod enc Try.prog W 0 (fun _ => true) true fuel 22 [.slice a0 len cap] = some (d0, p0) := by simpa [Value.cells] using hf
  obtain ⟨ts, T, hl, hpr⟩ := toks_of_trod hf' hb0
  refine (walk _ ts a1 W T hl hpr w1).mono fun e W' ⟨he, hbw⟩ => ?_
  subst he
  have hread : DataW.Trod enc Try.prog W' 0 (fun b => decide (b < W.heap.size)) true 22 (.slice a0 len cap) d0 p0 :=
    Below.trod laidOut (by kernel_rfl) (of_decide_eq_true (by kernel_rfl)) h0k hbw hlt
  exact ⟨_, rfl, _, _, _, [], p0, [], hW', trodAll_cons_mk (shut_bool Try.underlying4 _) trodAll_mk0, by
    have := trodAll_cons_mk hread (trodAll_cons_mk (shut_string (enc := enc) (P := Try.prog) (w := W') (base := 0) Try.underlying9 w1) trodAll_mk0)
    rw [List.append_nil, List.append_nil] at this
    exact this, rfl, hbw.frame _, fun h => by cases h⟩

set_option maxRecDepth 100000 in
theorem lifted (os : Os) (started : os.Started) (H : Type) (enc : TypeId × Value → H) (F : Stop.Interp) :
    ReturnsInHanded {} Try.checked os 4 .any ((Rows.OpenSpec.upto Rows.lexBackSpec).pre6 enc Try.prog Try.f4 Rows.lexBackUptoRow.domain false) (((Rows.OpenSpec.upto Rows.lexBackSpec).at F).post enc Try.prog Try.f4 false true false false) := by
  refine returnsInHanded_of_cond (C := Try.checked) (s := Rows.OpenSpec.upto Rows.lexBackSpec) (k := Rows.uptoSmall) rfl own started (by kernel_rfl) Try.func4
    (OpenSpec.witness (enc := enc) (C := Try.checked) (s := Rows.OpenSpec.upto Rows.lexBackSpec) (k := Rows.uptoSmall) rfl false ⟨#[], #[.slice none 0 0, .string .empty], []⟩ 8 (by kernel_rfl) (by kernel_rfl) (by kernel_rfl)
      (x := ([.nil, .lit (.string [])], [], [])) (by kernel_rfl) rfl (by kernel_rfl)) ?_
  intro W base args ds gs before hval hW _ hk _
  exact contract H enc W base args ds gs before hval hW hk

theorem proved : Rows.LexBackUptoSaid :=
  OpenClaim.holds_of_cond 4 Try.f4 rfl rfl rfl rfl rfl rfl rfl ⟨rfl, rfl, rfl, rfl, rfl⟩ rfl rfl rfl rfl rfl (by kernel_rfl) Try.func4 (by kernel_rfl)
    (of_decide_eq_true (by kernel_rfl)) (by unfold Func.isWrapper; first | (rw [if_pos (by decide +kernel)]; kernel_rfl) | (rw [if_neg (by decide +kernel)]; exact ⟨rfl, rfl⟩))
    (fun os started H enc _ F => lifted os started H enc F)
end LexBack

theorem lexBackUpto_holds : Rows.LexBackUptoSaid := LexBack.proved
end Go.Proofs.Ytilkkopgbdppjaa
