/-
  proteanlaw02.ParseDeep: whatever the number: true; the number reads as it did. The listed package variables start as the program's text lays them (the card ties them). No other conditions.
-/
import Derived.Test.YtbgkaiajodjpnaaDoorS7
import Derived.Test.YtbgkaiajodjpnaaDoorPT
import Derived.Test.YtbgkaiajodjpnaaDoorTie
import Derived.Test.YtbgkaiajodjpnaaDoorCards
import Derived.ProofKit
import Derived.LaidMore
import Derived.OpenShut
import Derived.Stop.Joined
import Derived.SevenTiedAt
import Derived.Laws.IdiomStrings
set_option linter.unusedVariables false
namespace Go.Proofs.YtbgkaiajodjpnaaDoor
open Go.RowKit

theorem M.parseR_eq (s : List UInt8) : M.parseR s = (match M.parse s with | .ok p => (p, (0, 0)) | .error f => ([], f)) := by
  unfold M.parseR M.parse M.readR
  split
  · rfl
  · rfl
theorem M.deep_yes (n : Nat) (h1 : 1 ≤ n) (h2 : n ≤ 31) : ∃ f, M.parseR (M.deepT n) = ([f], (0, 0)) ∧ f.body.len = 1 := by
  have h := M.deep_all ⟨n, by omega⟩
  rcases h with h | h
  · simp only at h; omega
  · simp only [M.deepOk] at h
    rw [M.parseR_eq]
    split at h
    · rename_i f hf
      rw [hf]
      simp only [Bool.and_eq_true, decide_eq_true_eq, beq_iff_eq] at h
      exact ⟨f, rfl, h.2⟩
    · simp only [Bool.and_eq_true, decide_eq_true_eq] at h; omega
    · cases h
theorem M.deep_no (n : Nat) (h1 : 31 < n) (h2 : n ≤ 60) : M.parseR (M.deepT n) = ([], (21, 296)) := by
  have h := M.deep_all ⟨n, by omega⟩
  rcases h with h | h
  · simp only at h; omega
  · simp only [M.deepOk] at h
    rw [M.parseR_eq]
    split at h
    · simp only [Bool.and_eq_true, decide_eq_true_eq] at h; omega
    · rename_i f hf
      rw [hf]
      simp only [Bool.and_eq_true, decide_eq_true_eq, beq_iff_eq] at h
      rw [h.2]
    · cases h

namespace ParseDeep
/-- the text so far -/
def sK (k : Nat) : ByteArray := ⟨([102, 117, 110, 32, 102, 40, 41, 32, 123] ++ M.rep k [119, 104, 105, 108, 101, 32, 120, 32, 123]).toArray⟩
def eK (k : Nat) : ByteArray := ⟨(M.rep k [125]).toArray⟩

theorem rep_succ (k : Nat) (l : List UInt8) : M.rep (k + 1) l = M.rep k l ++ l := by
  unfold M.rep; rw [List.replicate_succ', List.flatten_append]; simp
theorem rep_len (k : Nat) (l : List UInt8) : (M.rep k l).length = k * l.length := by
  induction k with
  | zero => simp [M.rep]
  | succ k ih => rw [rep_succ, List.length_append, ih, Nat.succ_mul]
theorem app_bytes (a b : ByteArray) : (a ++ b).data.toList = a.data.toList ++ b.data.toList := by simp
theorem sK_size (k : Nat) : (sK k).size = 9 + k * 9 := by
  rw [← len_list]; simp only [sK, List.length_append, rep_len, List.length_cons, List.length_nil]
theorem eK_size (k : Nat) : (eK k).size = k := by
  rw [← len_list]; simp only [eK, rep_len, List.length_cons, List.length_nil]; omega
theorem sK_succ (k : Nat) : sK k ++ ⟨#[119, 104, 105, 108, 101, 32, 120, 32, 123]⟩ = sK (k + 1) := by
  apply M.bytes_ext; rw [app_bytes]; simp only [sK, rep_succ, List.append_assoc]
theorem eK_succ (k : Nat) : eK k ++ ⟨#[125]⟩ = eK (k + 1) := by
  apply M.bytes_ext; rw [app_bytes]; simp only [eK, rep_succ]
theorem deep_bytes (k : Nat) : (sK k ++ eK k ++ ⟨#[125]⟩).data.toList = M.deepT k := by
  rw [app_bytes, app_bytes]; simp only [sK, eK, M.deepT, List.append_assoc]

set_option maxRecDepth 8000 in
set_option maxHeartbeats 1600000 in
theorem walk (n : Int) (w : World) :
    Calls Tryd.prog 5 #[.int .i64 n] w fun e w' => e = .returned (.bool true) ∧ Below w.heap.size w w' := by
  by_cases hlo : n < 1
  · go_enter Tryd.func5, Tryd.ntmps5
    go_wp2_with fail
    refine (fixed_any _).mono ?_
    rintro e w1 ⟨rfl, hb1⟩
    go_wp2_with fail
    refine (fixed_any _).mono ?_
    rintro e w2 ⟨rfl, hb2⟩
    go_wp2_with fail
    go_ret
    exact ⟨rfl, hb1.trans (hb2.mono hb1.size)⟩
  · by_cases hhi : 60 < n
    · go_enter Tryd.func5, Tryd.ntmps5
      go_wp2_with fail
      refine (fixed_any _).mono ?_
      rintro e w1 ⟨rfl, hb1⟩
      go_wp2_with fail
      refine (fixed_any _).mono ?_
      rintro e w2 ⟨rfl, hb2⟩
      go_wp2_with fail
      go_ret
      exact ⟨rfl, hb1.trans (hb2.mono hb1.size)⟩
    · obtain ⟨m, rfl⟩ : ∃ m : Nat, n = m := ⟨n.toNat, by omega⟩
      have hm1 : 1 ≤ m := by omega
      have hm2 : m ≤ 60 := by omega
      have hs25 := stood25
      have hg25 := guard25
      go_enter Tryd.func5, Tryd.ntmps5
      go_wp2_with fail
      refine (fixed_any _).mono ?_
      rintro e w1 ⟨rfl, hb1⟩
      go_wp2_with fail
      go_loop [3, 4, 5] (fun s e i => ∃ k : Nat, k ≤ m ∧ i = .int .i64 k ∧ s = .string (sK k) ∧ e = .string (eK k)) (fun _ _ i => m - (intOf i).toNat)
      case atStart => exact ⟨0, Nat.zero_le _, rfl, rfl, rfl⟩
      case round =>
        obtain ⟨k, hk, rfl, rfl, rfl⟩ := hrel
        have hS0 : (sK k).size ≤ 600 := by rw [sK_size]; omega
        have hE0 : (eK k).size ≤ 60 := by rw [eK_size]; omega
        by_cases hkl : k < m
        · have hki : (k : Int) < (m : Int) := by omega
          go_wp2_with fail
          refine ⟨⟨k + 1, by omega, by go_num, by rw [sK_succ], by rw [eK_succ]⟩, by simp [intOf]; omega⟩
        · obtain rfl : k = m := by omega
          have hsum : (sK k ++ eK k).size ≤ 660 := by rw [ByteArray.size_append]; omega
          have hbig : (sK k ++ eK k ++ ⟨#[125]⟩).size ≤ maxLen := by rw [ByteArray.size_append]; unfold maxLen; show _ + 1 ≤ _; omega
          by_cases h31 : 31 < k
          · have h31i : (31 : Int) < (k : Int) := by omega
            have HR := hid (M.deep_no k h31 hm2)
            go_wp2_with fail
            refine (parseAt _ _ _ _ _ hbig (deep_bytes k) HR.out).mono ?_
            rintro e w2 ⟨hb2, a2, c2, rfl, hP2⟩
            go_wp2_with fail
            go_ret
            refine ⟨rfl, ?_⟩
            exact ((hb1.trans (hb2.mono hb1.size)).alloc (by have := hb1.size; have := hb2.size; omega) _).alloc (by rw [World.size_alloc]; have := hb1.size; have := hb2.size; omega) _
          · have h31i : ¬ (31 : Int) < (k : Int) := by omega
            obtain ⟨f, hf, hl⟩ := M.deep_yes k hm1 (by omega)
            have HR := hid hf
            clear hf
            go_wp2_with fail
            refine (parseAt _ _ _ _ _ hbig (deep_bytes k) HR.out).mono ?_
            rintro e w2 ⟨hb2, a2, c2, rfl, hP2⟩
            obtain ⟨cs, ⟨_, ga, gc, ge, hsl⟩, vp, vb, rest, hcs, hst, hbd, _⟩ := hP2
            subst hcs
            rcases hsl with ⟨hsl, _⟩ | ⟨b, o, rfl, hlt, _, hc⟩
            · simp at hsl
            simp only [Value.slice.injEq] at ge
            obtain ⟨rfl, _, rfl⟩ := ge
            obtain ⟨ab, cb, rfl⟩ := hbd.form
            rw [hl] at hc
            have hc2 := hc 2 _ rfl
            go_wp2_with fail
            go_ret
            refine ⟨rfl, ?_⟩
            exact ((hb1.trans (hb2.mono hb1.size)).alloc (by have := hb1.size; have := hb2.size; omega) _).alloc (by rw [World.size_alloc]; have := hb1.size; have := hb2.size; omega) _

open Go.ChangeShapes Go.WideShapes Go.ChangeAt
theorem own : ownKnob Tryd.prog.godebug = none := by kernel_rfl
theorem door_met (os : Os) (args : Array Value) : laidMetH Tryd.prog Rows.parseDeepRow.laid ((World.doorLaid Tryd.prog 400 os).forCall (fun _ _ => 0) ⟨#[], args, []⟩).memory :=
  laidMetH_of_parts3 (fuel := 8) (laidMet_of_run' 8 (by kernel_rfl) (by kernel_rfl)) (by kernel_rfl) (by kernel_rfl)

set_option maxRecDepth 100000 in
theorem lifted (os : Os) (started : os.Started) (H : Type) (enc : TypeId × Value → H) :
    ReturnsInHanded {} Tryd.checked os 5 .any (fun w args => (Rows.parseDeepSpec.pre enc Tryd.prog Tryd.f5 [] false w args ∧ laidMetH Tryd.prog Rows.parseDeepRow.laid w) ∧ sizedMet enc Tryd.prog Tryd.f5 (OpenSpec.ofChange Rows.parseDeepSpec) false w args)
      (Rows.parseDeepSpec.post enc Tryd.prog Tryd.f5 false true false false) := by
  refine returnsInHanded_of_change_and (C := Tryd.checked) (X := fun w _ => laidMetH Tryd.prog Rows.parseDeepRow.laid w) (fun _ _ _ hh h => h.of_heap hh) own started (by kernel_rfl) Tryd.func5
    (ChangeSpec.witness_shaped (enc := enc) (C := Tryd.checked) (os := os) (X := fun w _ => laidMetH Tryd.prog Rows.parseDeepRow.laid w) false (World.doorLaid Tryd.prog 400 os) #[.int .i64 0] 8 rfl (World.shaped_of_RefB (by kernel_rfl) (by kernel_rfl)) (by kernel_rfl) (by kernel_rfl) (by kernel_rfl) (door_met os _)) ?_
  intro W base args ds gs before hval0 hW _ _ hL _
  have hval : ∀ (j : Nat) t v, Tryd.f5.params[j]? = some t → args[j]? = some v → Value.okWide Tryd.prog W .any base t v := hval0
  have hW' := hW
  obtain ⟨p, q, hA0, hV, rfl, hfz, hnd⟩ := hW
  have hA : DataW.TrodAll enc Tryd.prog W 0 (fun _ => true) true Tryd.f5.params.toList args.toList ds p := hA0
  rw [Tryd.params5] at hA hval
  obtain ⟨v0, vs0, d0, ds0, p0, q0, hargs, rfl, rfl, h0, r0⟩ := trodAll_cons hA
  obtain ⟨rfl, rfl, rfl⟩ := trodAll_nil r0
  obtain rfl : args = #[v0] := by cases args; simp_all
  obtain ⟨rfl, rfl⟩ := trodVars_none hV
  obtain ⟨a0, rfl, rfl, rfl, w0⟩ := open_int Tryd.underlying3 (hval 0 3 v0 rfl rfl) h0
  clear hA0 hval0
  simp only [List.append_nil] at hW'
  refine (walk a0 W).mono fun e W' ⟨he, hb⟩ => ?_
  subst he
  exact ⟨_, rfl, _, _, _, [], [], [], hW', trodAll_cons_mk (shut_bool Tryd.underlying4 _) trodAll_mk0, trodAll_cons_mk (shut_int Tryd.underlying3 w0) trodAll_mk0, rfl, hb.frame _, fun h => by cases h⟩

theorem proved : Rows.ParseDeepSaid :=
  OpenClaim.holds_of_wide 5 Tryd.f5 rfl rfl rfl rfl rfl rfl rfl ⟨rfl, rfl, rfl, rfl, rfl⟩ rfl rfl rfl rfl rfl (by kernel_rfl) Tryd.func5 (by kernel_rfl)
    (of_decide_eq_true (by kernel_rfl)) (by unfold Func.isWrapper; first | (rw [if_pos (by decide +kernel)]; kernel_rfl) | (rw [if_neg (by decide +kernel)]; exact ⟨rfl, rfl⟩))
    (fun os started H enc _ => lifted os started H enc)
end ParseDeep

theorem parseDeep_holds : Rows.ParseDeepCardSaid :=
  Claim7.holds_tied_plain_at .later [] [.data, .data, .data, .sentinel, .sentinel] true Rows.parseDeepCard.stood.harness true
    ParseDeep.proved (fun _ h => by cases h) (by kernel_rfl) (fun _ h => by cases h) parseDeep_row_tie rfl ⟨rfl, rfl⟩ (by kernel_rfl) rfl
    (fun f fn hf hfn => by
      obtain rfl : f = 5 := Option.some.inj ((show Tryd.prog.funcNamed Rows.parseDeepRow.func = some 5 by kernel_rfl).symm.trans hf) |>.symm
      obtain rfl : fn = Tryd.f5 := (Option.some.inj (Tryd.func5.symm.trans hfn)).symm
      exact ⟨by kernel_rfl, fun j t ht => by
        rw [Tryd.params5] at ht
        have hm : t ∈ [3] := by simpa using Array.mem_of_getElem? ht
        have hall : ([3].all fun u => !Tryd.prog.wantsStandIn u) = true := by kernel_rfl
        exact (show Tryd.prog.wantsStandIn t = false by simpa using List.all_eq_true.1 hall t hm)⟩)
    (by kernel_rfl)
end Go.Proofs.YtbgkaiajodjpnaaDoor
