/-
  The walks of print.printed, print.May and print.Program. Conditions: what the program is in memory; that operands' numbers are some; that the table of powers lies as it should.
-/
import Derived.Test.YtkpmpnebmkeocaaGreatDoorY10
import Derived.Test.YtkpmpnebmkeocaaGreatDoorMB
set_option linter.unusedVariables false
set_option linter.unusedSimpArgs false
namespace Go.Proofs.YtkpmpnebmkeocaaGreatDoor
open Go.RowKit

def TabW (w : World) : Prop := Lib.TabIs Tryz.prog w "internal/strconv.uint64pow10" .u64 Lib.pow10Tab
theorem TabW.below {w w' : World} (h : TabW w) (hb : Below w.heap.size w w') : TabW w' := ((TabB.of h).keep hb.size (fun k _ hk => hb.block k hk)).tab
theorem parseR_eq (s : List UInt8) : M.parseR s = match M.parse s with | .ok p => (p, (0, 0)) | .error f => ([], f) := by
  unfold M.parseR M.parse M.readR
  split
  · rfl
  · rfl
theorem conv_own {w : World} {B : Nat} {v : Value} {b : List UInt8} (h : w.ownsRow B 5 1 v b.length (byC b)) : (convert 55 9 v).run Tryz.prog w = .ok (.string ⟨b.toArray⟩) w := by
  have hc := fun g hg => h.cells (g := g) hg
  rcases h.2 with ⟨rfl, h0⟩ | ⟨g, cap, cur, rfl, _⟩
  · have : b = [] := List.length_eq_zero_iff.1 h0
    subst this
    exact run_convert_bytes_nil w 55 5 Tryz.underlying55 Tryz.underlying5 0 0 _ Tryz.underlying9
  · refine run_convert_bytes_back w 55 9 5 ⟨g, 0, none⟩ cap b Tryz.underlying55 Tryz.underlying5 Tryz.underlying9 (fun j hj => hc g rfl j _ ?_)
    simp [byC, hj]
def prT (p : List M.Fn) : ByteArray := ⟨((M.printed p).getD []).toArray⟩
def prB (p : List M.Fn) : Bool := (M.printed p).isSome
theorem ret_pr {p : List M.Fn} {o : Option (List UInt8)} (h : M.printed p = o) : Ending.returned (.tuple #[.string ⟨(o.getD []).toArray⟩, .bool o.isSome]) = .returned (.tuple #[.string (prT p), .bool (prB p)]) := by
  unfold prT prB; rw [h]
set_option maxRecDepth 8000 in
set_option maxHeartbeats 4000000 in
theorem printed_any (w : World) (v : Value) (p : List M.Fn) (hv : ProgAt w NoX v p) (hr : RngP p) (htab : TabW w) :
    Calls Tryz.prog 21 #[.agg #[v]] w fun e w' => e = .returned (.tuple #[.string (prT p), .bool (prB p)]) ∧ Below w.heap.size w w' := by
  obtain ⟨va, vc, rfl⟩ : ∃ a c, v = .slice a p.length c := by obtain ⟨_, h1, _⟩ := hv; exact SlAt.form h1
  have hb0 : Below w.heap.size w (w.alloc (.cells #[.slice va p.length vc] 24)) := (Below.refl _ w).alloc (Nat.le_refl _) _
  have hbx := heap_alloc_new w (.cells #[.slice va p.length vc] 24)
  have hvW := hv.keep (Below.keepX hb0)
  have htW := htab.below hb0
  go_enter Tryz.func21, Tryz.ntmps21
  go_wp2_with (go_at_call 25; refine stopHere ?_)
  refine stopAt ?_
  generalize w.alloc (.cells #[.slice va p.length vc] 24) = W at hb0 hbx hvW htW
  refine (newLayer_any W htW).mono ?_
  rintro e w1 ⟨L, X, rfl, hL, hb1⟩
  have hv1 : ProgAt w1 (Hi W.heap.size) (.slice va p.length vc) p := (hvW.weak (fun b hlt _ => by unfold Hi; omega)).keep (Below.keepX hb1)
  have hbx1 := kept hb1 hbx
  have c1 := cell0 hbx1
  go_wp2_with (go_at_call 33; refine stopHere ?_)
  refine stopAt ?_
  refine (lprogram_any W.heap.size w1 X L (some []) _ p hL hv1 hr).mono ?_
  rintro e w2 ⟨rfl, X2, l2, t2, x2⟩
  have hB2 : Below w.heap.size w w2 := (hb0.trans (hb1.mono hb0.size)).trans ((t2.belowB (fun k hk => (hL.far k hk).1) hb1.size).mono hb0.size)
  have hkW : w.heap.size < W.heap.size := (Array.getElem?_eq_some_iff.1 hbx).1
  have hbx2 : w2.heap[w.heap.size]? = some (.cells #[.slice va p.length vc] 24 (0, 0)) := (t2.block _ (Nat.lt_of_lt_of_le hkW hb1.size) (fun hx => by have := (hL.far _ hx).1; omega)).trans hbx1
  clear c1
  have c1 := cell0 hbx2
  have hv2 : ProgAt w2 NoX (.slice va p.length vc) p := hv.keep (Below.keepX hB2)
  have HP : Hid (M.printed p = match M.layP (some []) p with | none => none | some b => (match M.parse b with | .ok q => if p = q then some b else none | .error _ => none)) := rfl
  generalize M.layP (some []) p = s5 at l2 HP
  obtain ⟨hX, hf, tb, v, mw, mo, bs, z1, z2, z3, z6, z7, z8, z9⟩ := l2
  cases s5 with
  | none =>
    obtain ⟨va2, vc2, rfl⟩ := own_form z8
    simp only [Option.isNone_none] at z1
    obtain ⟨d0, d1, d2, d3, df, dz⟩ := cells4 z1
    go_wp2_with fail
    go_ret2
    exact ⟨ret_pr HP.out, hB2⟩
  | some b =>
    obtain rfl := z6 b rfl
    have hcv := conv_own z8
    obtain ⟨va2, vc2, rfl⟩ := own_form z8
    simp only [Option.isNone_some] at z1
    obtain ⟨d0, d1, d2, d3, df, dz⟩ := cells4 z1
    go_wp2_with (go_at_call 34; refine stopHere ?_)
    refine stopAt ?_
    refine (parse_any ⟨b.toArray⟩ w2 (by show b.toArray.size ≤ maxLen; simp [maxLen]; omega)).mono ?_
    rintro e w3 ⟨hb3, vf, rfl, hP3⟩
    have hB3 : Below w.heap.size w w3 := hB2.trans (hb3.mono hB2.size)
    have hbx3 := kept hb3 hbx2
    have hv3 := hv2.keep (Below.keepX hb3)
    have HR := hid (parseR_eq b)
    have eb : (⟨b.toArray⟩ : ByteArray).data.toList = b := by simp
    rw [eb] at hP3 ⊢
    clear c1 d0 d1 d2 d3 df eb
    cases hps : M.parse b with
    | error f =>
      obtain ⟨fc, fa⟩ := f
      have hfz : fc ≠ 0 := M.parse_nz b _ hps
      rw [hps] at HR
      simp only at HR
      rw [HR.out] at hP3 ⊢
      simp only [List.length_nil] at hP3 ⊢
      obtain ⟨af, cf, rfl⟩ : ∃ a c, vf = .slice a 0 c := by obtain ⟨_, h1, _⟩ := hP3; exact SlAt.form h1
      have hfb : (fc == 0) = false := by simpa using hfz
      have hB4 : Below w.heap.size w ((w3.alloc (.cells #[.slice af 0 cf] 24)).alloc (.cells #[.int .i64 fc, .int .i64 fa] 39)) := (hB3.alloc hB3.size _).alloc (by have := hB3.size; simp; omega) _
      have HQ : Hid (M.printed p = none) := by unfold Hid; rw [HP.out]; simp only [hps]
      have hfd : decide (fc = 0) = false := decide_eq_false hfz
      have hfn : (fc != 0) = true := by simpa using hfz
      go_wp2_with fail
      go_ret2
      exact ⟨ret_pr HQ.out, hB4⟩
    | ok q =>
      rw [hps] at HR
      simp only at HR
      rw [HR.out] at hP3 ⊢
      obtain ⟨af, cf, rfl⟩ : ∃ a c, vf = .slice a q.length c := by obtain ⟨_, h1, _⟩ := hP3; exact SlAt.form h1
      have hq3 : ProgAt w3 NoX (.slice af q.length cf) q := hP3.weak fun _ _ _ h => h
      have c3 := cell0 hbx3
      have hlt3 : w.heap.size < w3.heap.size := (Array.getElem?_eq_some_iff.1 hbx3).1
      have hlt4 : w.heap.size < w3.heap.size + 1 := by omega
      have hb4 : Below w3.heap.size w3 ((w3.alloc (.cells #[.slice af q.length cf] 24)).alloc (.cells #[.int .i64 0, .int .i64 0] 39)) := ((Below.refl _ _).alloc (Nat.le_refl _) _).alloc (by simp) _
      have hv4 := hv3.keep (Below.keepX hb4)
      have hq4 := hq3.keep (Below.keepX hb4)
      have hB4 := hB3.trans (hb4.mono hB3.size)
      go_wp2_with (go_at_call 35; refine stopHere ?_)
      refine stopAt ?_
      refine (same_any _ _ _ p q hv4 hq4).mono ?_
      rintro e w5 ⟨rfl, hb5⟩
      have hB5 := hB4.trans (hb5.mono hB4.size)
      by_cases hpq : p = q
      · have hd : decide (p = q) = true := decide_eq_true hpq
        have HQ : Hid (M.printed p = some b) := by unfold Hid; rw [HP.out]; simp only [hps, if_pos hpq]
        clear hpq
        rw [hd]
        go_wp2_with fail
        go_ret2
        exact ⟨ret_pr HQ.out, hB5⟩
      · have hd : decide (p = q) = false := decide_eq_false hpq
        have HQ : Hid (M.printed p = none) := by unfold Hid; rw [HP.out]; simp only [hps, if_neg hpq]
        clear hpq
        rw [hd]
        go_wp2_with fail
        go_ret2
        exact ⟨ret_pr HQ.out, hB5⟩
set_option maxHeartbeats 1000000 in
theorem pmay_any (w : World) (v : Value) (p : List M.Fn) (hv : ProgAt w NoX v p) (hr : RngP p) (htab : TabW w) :
    Calls Tryz.prog 11 #[.agg #[v]] w fun e w' => e = .returned (.bool (prB p)) ∧ Below w.heap.size w w' := by
  obtain ⟨va, vc, rfl⟩ : ∃ a c, v = .slice a p.length c := by obtain ⟨_, h1, _⟩ := hv; exact SlAt.form h1
  have hb0 : Below w.heap.size w (w.alloc (.cells #[.slice va p.length vc] 24)) := (Below.refl _ w).alloc (Nat.le_refl _) _
  go_enter Tryz.func11, Tryz.ntmps11
  go_wp2_with (go_at_call 21; refine stopHere ?_)
  refine stopAt ?_
  refine (printed_any _ _ p (hv.keep (Below.keepX hb0)) hr (htab.below hb0)).mono ?_
  rintro e w1 ⟨rfl, hb1⟩
  go_wp2_with fail
  go_ret
  exact ⟨rfl, hb0.trans (hb1.mono hb0.size)⟩
set_option maxHeartbeats 1000000 in
theorem pprogram_any (w : World) (v : Value) (p : List M.Fn) (hv : ProgAt w NoX v p) (hr : RngP p) (htab : TabW w) :
    Calls Tryz.prog 13 #[.agg #[v]] w fun e w' => e = .returned (.string (prT p)) ∧ Below w.heap.size w w' := by
  obtain ⟨va, vc, rfl⟩ : ∃ a c, v = .slice a p.length c := by obtain ⟨_, h1, _⟩ := hv; exact SlAt.form h1
  have hb0 : Below w.heap.size w (w.alloc (.cells #[.slice va p.length vc] 24)) := (Below.refl _ w).alloc (Nat.le_refl _) _
  go_enter Tryz.func13, Tryz.ntmps13
  go_wp2_with (go_at_call 21; refine stopHere ?_)
  refine stopAt ?_
  refine (printed_any _ _ p (hv.keep (Below.keepX hb0)) hr (htab.below hb0)).mono ?_
  rintro e w1 ⟨rfl, hb1⟩
  go_wp2_with fail
  go_ret
  exact ⟨rfl, hb0.trans (hb1.mono hb0.size)⟩
end Go.Proofs.YtkpmpnebmkeocaaGreatDoor
