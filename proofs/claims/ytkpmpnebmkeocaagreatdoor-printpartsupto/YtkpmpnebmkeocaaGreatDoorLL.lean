/-
  The walks of the small functions of package lex: what each call answers, for every argument that stands within the text.
-/
import Derived.Test.YtkpmpnebmkeocaaGreatDoorRows
import Derived.Test.YtkpmpnebmkeocaaGreatDoorMA
import Derived.Test.YtkpmpnebmkeocaaGreatDoorShelf
import Derived.WalkKit
import Derived.WalkSpells
import Derived.WalkLawsBesides
import Derived.Deep.QuietTactic
import Derived.BigQuiet
import Derived.Deep.AppendLies
import Derived.Laws.StructEq
import Derived.Maps.AppendAt
set_option linter.unusedVariables false
section
namespace Go.Proofs.YtkpmpnebmkeocaaGreatDoor
open Go.RowKit

theorem ret_int {k : IntKind} {a b : Int} (h : a = b) : Ending.returned (.int k a) = .returned (.int k b) := by rw [h]
theorem ret_bool {a b : Bool} (h : a = b) : Ending.returned (.bool a) = .returned (.bool b) := by rw [h]

set_option maxHeartbeats 1000000 in
theorem classOf_any (c : Int) (w : World) (h0 : 0 ≤ c) (h1 : c ≤ 255) :
    Calls Tryz.prog 76 #[.int .u8 c] w fun e w' => e = .returned (.int .i64 (M.cls c)) ∧ w' = w := by
  go_enter Tryz.func76, Tryz.ntmps76
  go_wp2_with (go_at_call 93; refine (Tryz.strings_IndexByte _ _ _).mono ?_; rintro e w' ⟨rfl, rfl⟩)
  all_goals
    go_ret
    refine ⟨ret_int ?_, rfl⟩
    try simp only [beq_iff_eq, beq_eq_false_iff_ne, ne_eq, M.idx_iff c h0 h1, M.idx_lt c h0 h1] at *
    first
      | (exfalso; omega)
      | (unfold M.cls; repeat (first | rw [if_pos (by omega)] | rw [if_neg (by omega)]))

theorem classOf_byte (b : UInt8) (w : World) :
    Calls Tryz.prog 76 #[.int .u8 b.toNat] w fun e w' => e = .returned (.int .i64 (M.cls b.toNat)) ∧ w' = w :=
  classOf_any b.toNat w (by omega) (by have := b.toNat_lt; omega)

theorem at_list (s : ByteArray) (k : Nat) (h : k < s.size) : s.data.toList[k]'(by simpa using h) = s[k] := rfl
theorem len_list (s : ByteArray) : s.data.toList.length = s.size := by simp

set_option maxHeartbeats 400000 in
theorem remarkEnd_any (s : ByteArray) (k : Nat) (w : World) (hs : s.size ≤ 65536) (hk : k ≤ s.size) :
    Calls Tryz.prog 77 #[.string s, .int .i64 k] w fun e w' => e = .returned (.int .i64 (M.ext M.pNl s.data.toList k : Nat)) ∧ w' = w := by
  go_enter Tryz.func77, Tryz.ntmps77
  go_wp2
  go_loop [1] (fun i => ∃ j : Nat, j ≤ s.size ∧ i = .int .i64 j ∧ M.ext M.pNl s.data.toList j = M.ext M.pNl s.data.toList k) (fun i => s.size - (intOf i).toNat)
  case atStart => exact ⟨k, hk, rfl, rfl⟩
  case round =>
    obtain ⟨j, hj, rfl, hx⟩ := hrel
    have HX : Hid (M.ext M.pNl s.data.toList j = M.ext M.pNl s.data.toList k) := hx
    clear hx
    by_cases hlt : j < s.size
    · go_wp2
      · refine ⟨⟨j + 1, by omega, by go_num, ?_⟩, by simp [intOf]; omega⟩
        rw [← HX.out]
        exact (M.ext_yes _ _ _ (by rw [len_list]; omega) (decide_eq_true (by rw [at_list s j hlt]; simp_all; omega))).symm
      · go_ret
        refine ⟨ret_int ?_, rfl⟩
        rw [← HX.out, M.ext_no _ _ _ (by rw [len_list]; omega) (decide_eq_false (by rw [at_list s j hlt]; simp_all; omega))]
    · go_wp2
      go_ret
      exact ⟨ret_int (by rw [← HX.out, M.ext_end _ _ _ (by rw [len_list]; omega)]), rfl⟩

set_option maxHeartbeats 400000 in
theorem goesOn_any (s : ByteArray) (k : Nat) (w : World) (hs : s.size ≤ 65536) (hk : k ≤ s.size) :
    Calls Tryz.prog 80 #[.string s, .int .i64 k] w fun e w' => e = .returned (.bool (M.goB s.data.toList k)) ∧ w' = w := by
  by_cases hlt : k < s.size
  · go_enter Tryz.func80, Tryz.ntmps80
    go_wp2_with (go_at_call 76; refine (classOf_byte _ _).mono ?_; rintro e w' ⟨rfl, rfl⟩)
    · go_ret
      exact ⟨ret_bool (M.goB_true _ _ (by rw [len_list]; omega) (.inl ‹_›)).symm, rfl⟩
    · go_ret
      exact ⟨ret_bool (M.goB_true _ _ (by rw [len_list]; omega) (.inr (.inl ‹_›))).symm, rfl⟩
    · go_ret
      refine ⟨ret_bool ?_, rfl⟩
      rw [M.goB_in _ _ (by rw [len_list]; omega), at_list s k hlt, M.pInn_eq]
  · go_enter Tryz.func80, Tryz.ntmps80
    go_wp2
    go_ret
    exact ⟨ret_bool (M.goB_end _ _ (by rw [len_list]; omega)).symm, rfl⟩

set_option maxHeartbeats 400000 in
theorem wordEnd_any (s : ByteArray) (k : Nat) (w : World) (hs : s.size ≤ 65536) (hk : k ≤ s.size) :
    Calls Tryz.prog 78 #[.string s, .int .i64 k] w fun e w' => e = .returned (.int .i64 (M.ext M.pInn s.data.toList k : Nat)) ∧ w' = w := by
  go_enter Tryz.func78, Tryz.ntmps78
  go_wp2
  go_loop [1] (fun i => ∃ j : Nat, j ≤ s.size ∧ i = .int .i64 j ∧ M.ext M.pInn s.data.toList j = M.ext M.pInn s.data.toList k) (fun i => s.size - (intOf i).toNat)
  case atStart => exact ⟨k, hk, rfl, rfl⟩
  case round =>
    obtain ⟨j, hj, rfl, hx⟩ := hrel
    have HX : Hid (M.ext M.pInn s.data.toList j = M.ext M.pInn s.data.toList k) := hx
    clear hx
    cases hg : M.goB s.data.toList j
    · have HG : Hid (M.goB s.data.toList j = false) := hg
      go_wp2_with (go_at_call 80; refine (goesOn_any s j _ hs hj).mono ?_; rintro e w' ⟨rfl, rfl⟩)
      go_ret
      refine ⟨ret_int ?_, rfl⟩
      rw [← HX.out]
      by_cases hlt : j < s.size
      · rw [M.ext_no _ _ _ (by rw [len_list]; omega) (by rw [← M.goB_in]; exact HG.out)]
      · rw [M.ext_end _ _ _ (by rw [len_list]; omega)]
    · have HG : Hid (M.goB s.data.toList j = true) := hg
      have hlt : j < s.size := by have := M.goB_lt _ _ hg; rw [len_list] at this; exact this
      go_wp2_with (go_at_call 80; refine (goesOn_any s j _ hs hj).mono ?_; rintro e w' ⟨rfl, rfl⟩)
      refine ⟨⟨j + 1, by omega, by go_num, ?_⟩, by simp [intOf]; omega⟩
      rw [← HX.out]
      exact (M.ext_yes _ _ _ (by rw [len_list]; omega) (by rw [← M.goB_in]; exact HG.out)).symm

set_option maxHeartbeats 400000 in
theorem digitsEnd_any (s : ByteArray) (k : Nat) (w : World) (hs : s.size ≤ 65536) (hk : k ≤ s.size) :
    Calls Tryz.prog 79 #[.string s, .int .i64 k] w fun e w' => e = .returned (.int .i64 (M.ext M.pDig s.data.toList k : Nat)) ∧ w' = w := by
  go_enter Tryz.func79, Tryz.ntmps79
  go_wp2
  go_loop [1] (fun i => ∃ j : Nat, j ≤ s.size ∧ i = .int .i64 j ∧ M.ext M.pDig s.data.toList j = M.ext M.pDig s.data.toList k) (fun i => s.size - (intOf i).toNat)
  case atStart => exact ⟨k, hk, rfl, rfl⟩
  case round =>
    obtain ⟨j, hj, rfl, hx⟩ := hrel
    have HX : Hid (M.ext M.pDig s.data.toList j = M.ext M.pDig s.data.toList k) := hx
    clear hx
    by_cases hlt : j < s.size
    · by_cases h4 : M.cls s[j].toNat = 4
      · have HG : Hid (M.cls s[j].toNat = 4) := h4
        have hb : (M.cls s[j].toNat == 4) = true := by simp [h4]
        clear h4
        go_wp2_with (go_at_call 76; refine (classOf_byte _ _).mono ?_; rintro e w' ⟨rfl, rfl⟩)
        refine ⟨⟨j + 1, by omega, by go_num, ?_⟩, by simp [intOf]; omega⟩
        rw [← HX.out]
        exact (M.ext_yes _ _ _ (by rw [len_list]; omega) (decide_eq_true (by rw [at_list s j hlt]; exact HG.out))).symm
      · have HG : Hid (¬ M.cls s[j].toNat = 4) := h4
        have hb : (M.cls s[j].toNat == 4) = false := by simp [h4]
        clear h4
        go_wp2_with (go_at_call 76; refine (classOf_byte _ _).mono ?_; rintro e w' ⟨rfl, rfl⟩)
        go_ret
        refine ⟨ret_int ?_, rfl⟩
        rw [← HX.out, M.ext_no _ _ _ (by rw [len_list]; omega) (decide_eq_false (by rw [at_list s j hlt]; exact HG.out))]
    · go_wp2
      go_ret
      exact ⟨ret_int (by rw [← HX.out, M.ext_end _ _ _ (by rw [len_list]; omega)]), rfl⟩
end Go.Proofs.YtkpmpnebmkeocaaGreatDoor
end
section
namespace Go.Proofs.YtkpmpnebmkeocaaGreatDoor
open Go.RowKit

set_option maxHeartbeats 400000 in
theorem begins_any (s : ByteArray) (k : Int) (w : World) (hs : s.size ≤ maxLen) :
    Calls Tryz.prog 130 #[.string s, .int .i64 k] w fun e w' => e = .returned (.bool (M.begB s.data.toList k)) ∧ w' = w := by
  unfold maxLen at hs
  rcases hl : s.data.toList with _ | ⟨c, r⟩
  · obtain rfl : s = ⟨#[]⟩ := by cases s; simp_all
    go_enter Tryz.func130, Tryz.ntmps130
    go_wp2
    go_ret
    exact ⟨rfl, rfl⟩
  · have h0 : 0 < s.size := by rw [← len_list, hl]; simp
    have HL : Hid (s.data.toList = c :: r) := hl
    have hz : s.toList.isEmpty = false := by rw [ByteArray.toList_eq, hl]; rfl
    clear hl
    go_enter Tryz.func130, Tryz.ntmps130
    go_wp2_with (go_at_call 76; refine (classOf_byte _ _).mono ?_; rintro e w' ⟨rfl, rfl⟩)
    go_ret
    refine ⟨ret_bool ?_, rfl⟩
    have hc : s[0] = c := by
      have := at_list s 0 h0
      rw [← this]; simp [HL.out]
    simp [M.begB, hc]

set_option maxHeartbeats 400000 in
theorem word_any (s : ByteArray) (w : World) (hs : s.size ≤ maxLen) :
    Calls Tryz.prog 128 #[.string s] w fun e w' => e = .returned (.bool (M.wordB s.data.toList)) ∧ w' = w := by
  have hs' := hs
  unfold maxLen at hs'
  by_cases hz : s.size ≤ 65536
  · cases hb : M.begB s.data.toList 3
    · have HB : Hid (M.begB s.data.toList 3 = false) := hb
      go_enter Tryz.func128, Tryz.ntmps128
      go_wp2_with (go_at_call 130; refine (begins_any _ _ _ hs).mono ?_; rintro e w' ⟨rfl, rfl⟩)
      go_ret
      exact ⟨ret_bool (by simp [M.wordB, HB.out]), rfl⟩
    · have HB : Hid (M.begB s.data.toList 3 = true) := hb
      go_enter Tryz.func128, Tryz.ntmps128
      go_wp2_with (first | (go_at_call 130; refine (begins_any _ _ _ hs).mono ?_; rintro e w' ⟨rfl, rfl⟩) | (go_at_call 78; refine (wordEnd_any s 0 _ hz (Nat.zero_le _)).mono ?_; rintro e w' ⟨rfl, rfl⟩))
      go_ret
      refine ⟨ret_bool ?_, rfl⟩
      rw [M.wordB, HB.out, len_list, decide_eq_true hz, Bool.eq_iff_iff]; simp; omega
  · go_enter Tryz.func128, Tryz.ntmps128
    go_wp2
    go_ret
    exact ⟨ret_bool (by rw [M.wordB, len_list, decide_eq_false hz]; rfl), rfl⟩

set_option maxHeartbeats 400000 in
theorem isNumber_any (s : ByteArray) (w : World) (hs : s.size ≤ maxLen) :
    Calls Tryz.prog 129 #[.string s] w fun e w' => e = .returned (.bool (M.numB s.data.toList)) ∧ w' = w := by
  unfold maxLen at hs
  rcases hl : s.data.toList with _ | ⟨c, r⟩
  · obtain rfl : s = ⟨#[]⟩ := by cases s; simp_all
    go_enter Tryz.func129, Tryz.ntmps129
    go_wp2
    go_ret
    exact ⟨rfl, rfl⟩
  · rw [← hl]
    have HL : Hid (s.data.toList = c :: r) := hl
    have hz : s.toList.isEmpty = false := by rw [ByteArray.toList_eq, hl]; rfl
    clear hl
    by_cases h9 : s.size ≤ 9
    · go_enter Tryz.func129, Tryz.ntmps129
      go_wp2_with (go_at_call 79; refine (digitsEnd_any s 0 _ (by omega) (Nat.zero_le _)).mono ?_; rintro e w' ⟨rfl, rfl⟩)
      go_ret
      refine ⟨ret_bool ?_, rfl⟩
      rw [M.numB, len_list, decide_eq_true h9, Bool.eq_iff_iff]
      have : s.data.toList.isEmpty = false := by rw [HL.out]; rfl
      rw [this]; simp; omega
    · go_enter Tryz.func129, Tryz.ntmps129
      go_wp2
      go_ret
      exact ⟨ret_bool (by rw [M.numB, len_list, decide_eq_false h9]; simp), rfl⟩

set_option maxHeartbeats 400000 in
theorem clone_any (s : ByteArray) (w : World) (hs : s.size ≤ 281474976710656) :
    Calls Tryz.prog 81 #[.string s] w fun e w' => e = .returned (.string s) ∧ Below w.heap.size w w' := by
  go_enter Tryz.func81, Tryz.ntmps81
  go_wp2_with (go_at_call 94; refine (Tryz.stringslite_Clone _ _ hs).mono ?_; rintro e w' ⟨rfl, hb⟩)
  go_ret
  exact ⟨rfl, hb⟩

set_option maxHeartbeats 400000 in
theorem mayBe_any (x : M.Tok) (w : World) (hs : x.t.size ≤ maxLen) :
    Calls Tryz.prog 115 #[.agg #[.int .i64 x.k, .string x.t, .int .i64 x.p]] w fun e w' => e = .returned (.bool (M.may1 x)) ∧ Below w.heap.size w w' := by
  have hs' := hs
  unfold maxLen at hs'
  go_enter Tryz.func115, Tryz.ntmps115
  go_wp2_with (first | (go_at_call 128; refine (word_any _ _ hs).mono ?_; rintro e w' ⟨rfl, rfl⟩) | (go_at_call 129; refine (isNumber_any _ _ hs).mono ?_; rintro e w' ⟨rfl, rfl⟩) | (go_at_call 130; refine (begins_any _ _ _ hs).mono ?_; rintro e w' ⟨rfl, rfl⟩))
  all_goals
    go_ret
    refine ⟨ret_bool ?_, (Below.refl _ _).alloc (Nat.le_refl _) _⟩
    simp_all [M.may1]
  · intro _; omega
  · intro _; exfalso; omega
end Go.Proofs.YtkpmpnebmkeocaaGreatDoor
end
section
namespace Go.Proofs.YtkpmpnebmkeocaaGreatDoor
open Go.RowKit

def TokAt (w : World) (v : Value) (ts : List M.Tok) : Prop :=
  ts.length ≤ 140737488355328 ∧ (∀ x, x ∈ ts → x.t.size ≤ maxLen) ∧ ∃ a cap, v = .slice a ts.length cap ∧
    (ts = [] ∨ ∃ b o, a = some ⟨b, o, none⟩ ∧ b < w.heap.size ∧ ∀ i (h : i < ts.length),
      w.cell? ⟨b, o + i * 3, none⟩ = some (.int .i64 ts[i].k) ∧ w.cell? ⟨b, o + i * 3 + 1, none⟩ = some (.string ts[i].t) ∧ w.cell? ⟨b, o + i * 3 + 2, none⟩ = some (.int .i64 ts[i].p))

theorem TokAt.below {w w' : World} {B : Nat} {v : Value} {ts : List M.Tok} (h : TokAt w v ts) (hb : Below B w w') (hB : ∀ b o n c, v = .slice (some ⟨b, o, none⟩) n c → b < B) : TokAt w' v ts := by
  obtain ⟨h1, h2, a, cap, rfl, h3⟩ := h
  refine ⟨h1, h2, a, cap, rfl, ?_⟩
  rcases h3 with h3 | ⟨b, o, rfl, hlt, hc⟩
  · exact .inl h3
  · have hbB := hB b o _ _ rfl
    refine .inr ⟨b, o, rfl, Nat.lt_of_lt_of_le hlt hb.size, fun i hi => ?_⟩
    obtain ⟨c1, c2, c3⟩ := hc i hi
    exact ⟨by rw [hb.cell (p := ⟨b, o + i * 3, none⟩) hbB]; exact c1, by rw [hb.cell (p := ⟨b, o + i * 3 + 1, none⟩) hbB]; exact c2, by rw [hb.cell (p := ⟨b, o + i * 3 + 2, none⟩) hbB]; exact c3⟩

theorem bcell {B : Nat} {W w1 : World} (hb : Below B W w1) : (∀ b o, b < B → w1.cell? ⟨b, o, none⟩ = W.cell? ⟨b, o, none⟩) ∧ (∀ b o, b < B → w1.frozen? ⟨b, o, none⟩ = W.frozen? ⟨b, o, none⟩) :=
  ⟨fun b o h => hb.cell (p := ⟨b, o, none⟩) h, fun b o h => hb.frozen (p := ⟨b, o, none⟩) h⟩

set_option maxHeartbeats 400000 in
theorem may_any (v : Value) (ts : List M.Tok) (w : World) (h : TokAt w v ts) :
    Calls Tryz.prog 103 #[v] w fun e w' => e = .returned (.bool (M.may ts)) ∧ Below w.heap.size w w' := by
  obtain ⟨h1, h2, a, cap, rfl, h3⟩ := h
  rcases h3 with rfl | ⟨b, o, rfl, hlt, hc⟩
  · go_enter Tryz.func103, Tryz.ntmps103
    go_wp2
    go_loop [7] (fun i => i = .int .i64 0) (fun _ => 0)
    case atStart => rfl
    case round =>
      subst hrel
      go_wp2
      go_ret
      exact ⟨rfl, Below.refl _ _⟩
  · go_enter Tryz.func103, Tryz.ntmps103
    go_wp2
    go_loopw [7] (fun i w' => ∃ j : Nat, j ≤ ts.length ∧ i = .int .i64 j ∧ (ts.take j).all M.may1 = true ∧ Below w.heap.size w w') (fun i _ => ts.length - (intOf i).toNat)
    case atStart => exact ⟨0, Nat.zero_le _, rfl, rfl, Below.refl _ _⟩
    case round =>
      obtain ⟨j, hj, rfl, hm, hb⟩ := hrel
      by_cases hjl : j < ts.length
      · obtain ⟨c1, c2, c3⟩ := hc j hjl
        rw [← hb.cell (p := ⟨b, o + j * 3, none⟩) hlt] at c1
        rw [← hb.cell (p := ⟨b, o + j * 3 + 1, none⟩) hlt] at c2
        rw [← hb.cell (p := ⟨b, o + j * 3 + 2, none⟩) hlt] at c3
        cases hm1 : M.may1 ts[j]
        · have HM : Hid (M.may1 ts[j] = false) := hm1
          go_wp2_with (go_at_call 115; refine (mayBe_any ts[j] _ (h2 _ (List.getElem_mem hjl))).mono ?_; rintro e w' ⟨rfl, hb2⟩)
          go_ret
          refine ⟨ret_bool (M.all_false _ _ j hjl HM.out).symm, ?_⟩
          exact (hb.alloc hb.size _).trans (hb2.mono (by simp; have := hb.size; omega))
        · have HM : Hid (M.may1 ts[j] = true) := hm1
          go_wp2_with (go_at_call 115; refine (mayBe_any ts[j] _ (h2 _ (List.getElem_mem hjl))).mono ?_; rintro e w' ⟨rfl, hb2⟩)
          refine ⟨⟨j + 1, by omega, by go_num, ?_, ?_⟩, by simp [intOf]; omega⟩
          · rw [M.all_take_succ _ _ _ hjl, hm, HM.out]; rfl
          · exact (hb.alloc hb.size _).trans (hb2.mono (by simp; have := hb.size; omega))
      · have HM : Hid ((ts.take j).all M.may1 = true) := hm
        clear hm
        go_wp2
        go_ret
        refine ⟨ret_bool ?_, hb⟩
        have := HM.out
        rw [List.take_of_length_le (by omega)] at this
        exact this.symm

theorem drewN_drewN (w : World) (a b : Nat) : (w.drewN a).drewN b = w.drewN (a + b) := by simp [World.drewN, Nat.add_assoc]

theorem toList_inj {a b : ByteArray} : a.toList = b.toList ↔ a = b := by
  rw [ByteArray.toList_eq, ByteArray.toList_eq]; exact ⟨M.bytes_ext, fun h => by rw [h]⟩

end Go.Proofs.YtkpmpnebmkeocaaGreatDoor
end
section
namespace Go.Proofs.YtkpmpnebmkeocaaGreatDoor
open Go.RowKit

theorem infoTok : (Tryz.prog.info? 69).map (fun i => (i.zero, i.size, i.bytes)) = some (some (.agg #[.int .i64 0, .string ⟨#[]⟩, .int .i64 0]), 3, 32) := by kernel_rfl

theorem row_snoc (l : List M.Tok) (x : M.Tok) : M.row (l ++ [x]) = M.row l ++ [.int .i64 x.k, .string x.t, .int .i64 x.p] := by simp [M.row, M.Tok.cells]

theorem cell_three_new (w : World) (x y z : Value) (t : TypeId) : ∀ j u, [x, y, z][j]? = some u → (w.alloc (.cells #[x, y, z] t)).cell? ((⟨w.heap.size, 0, none⟩ : Addr).add j) = some u := by
  intro j u hj
  have h := heap_alloc_new w (.cells #[x, y, z] t)
  match j, hj with
  | 0, hj => simp at hj; subst hj; simp [Addr.add, Lib.cell_of_heap h]
  | 1, hj => simp at hj; subst hj; simp [Addr.add, Lib.cell_of_heap h]
  | 2, hj => simp at hj; subst hj; simp [Addr.add, Lib.cell_of_heap h]

def LexRel (s : ByteArray) (w : World) (v p : Value) (w' : World) : Prop :=
  ∃ (k : Nat) (acc : List M.Tok), p = .int .i64 k ∧ M.At s.data.toList k acc ∧ w'.ownsRow (w.heap.size + 1) 69 3 v acc.length (M.row acc) ∧
    Below (w.heap.size + 1) (w.alloc (.cells #[.int .i64 0, .int .i64 0] 39)) w'

theorem extract_list (s : ByteArray) (a b : Nat) : s.extract a b = ⟨((s.data.toList.drop a).take (b - a)).toArray⟩ := by
  apply M.bytes_ext
  rw [Lib.extract_data]

theorem fault_cells {w w' : World} (h : Below (w.heap.size + 1) (w.alloc (.cells #[.int .i64 0, .int .i64 0] 39)) w') :
    w'.cell? ⟨w.heap.size, 0, none⟩ = some (.int .i64 0) ∧ w'.cell? ⟨w.heap.size, 1, none⟩ = some (.int .i64 0) ∧ w'.frozen? ⟨w.heap.size, 0, none⟩ = false ∧ w'.frozen? ⟨w.heap.size, 1, none⟩ = false := by
  have hn := heap_alloc_new w (.cells #[.int .i64 0, .int .i64 0] 39)
  refine ⟨?_, ?_, ?_, ?_⟩
  · rw [h.cell (p := ⟨w.heap.size, 0, none⟩) (Nat.lt_succ_self _), Lib.cell_of_heap hn]; rfl
  · rw [h.cell (p := ⟨w.heap.size, 1, none⟩) (Nat.lt_succ_self _), Lib.cell_of_heap hn]; rfl
  · rw [h.frozen (p := ⟨w.heap.size, 0, none⟩) (Nat.lt_succ_self _), Lib.frozen_of_heap hn]
  · rw [h.frozen (p := ⟨w.heap.size, 1, none⟩) (Nat.lt_succ_self _), Lib.frozen_of_heap hn]

theorem ownsRow_base {w : World} {b b' : Nat} {e : TypeId} {z : Nat} {v : Value} {n : Nat} {xs : List Value} (h : w.ownsRow b e z v n xs) (hb : b' ≤ b) : w.ownsRow b' e z v n xs := by
  refine ⟨h.1, ?_⟩
  rcases h.2 with h | ⟨g, cap, cur, hv, hg, r⟩
  · exact .inl h
  · exact .inr ⟨g, cap, cur, hv, Nat.le_trans hb hg, r⟩

theorem ownsRow_below {w w2 : World} {b : Nat} {e : TypeId} {z : Nat} {v : Value} {n : Nat} {xs : List Value} (h : w.ownsRow b e z v n xs) (hb : Below w.heap.size w w2) : w2.ownsRow b e z v n xs := by
  refine ⟨h.1, ?_⟩
  rcases h.2 with h | ⟨g, cap, cur, hv, hg, hh, r⟩
  · exact .inl h
  · refine .inr ⟨g, cap, cur, hv, hg, ?_, r⟩
    rw [hb.block g (Array.getElem?_eq_some_iff.1 hh).1]; exact hh

theorem LexRel.next {s : ByteArray} {w w1 w2 w3 : World} {k E : Nat} {x : Int} {v v' : Value} {acc : List M.Tok} (hat : M.At s.data.toList k acc)
    (hn : M.nxt (s.data.toList.drop k) = some (some x, E - k)) (hge : k ≤ E) (hbw : Below (w.heap.size + 1) (w.alloc (.cells #[.int .i64 0, .int .i64 0] 39)) w1)
    (hown : w1.ownsRow (w.heap.size + 1) 69 3 v acc.length (M.row acc)) (hb2 : Below w1.heap.size w1 w2) (o : Obj)
    (hown3 : w3.ownsRow (w.heap.size + 1) 69 3 v' (acc.length + 1) (M.row acc ++ [.int .i64 x, .string (s.extract k E), .int .i64 k])) (hg : (w2.alloc o).grownBy w3 v.ownBlock) :
    LexRel s w v' (.int .i64 E) w3 := by
  have hst := hat.tok hn
  rw [show k + (E - k) = E by omega, ← extract_list] at hst
  refine ⟨E, _, rfl, hst, ?_, ?_⟩
  · rw [row_snoc]; simpa using hown3
  · have h1 := hbw.size
    simp at h1
    have h2 := hb2.size
    refine ((hbw.trans (hb2.mono (by omega))).alloc (by omega) o).grown hg (by simp; omega) ?_
    intro g hgv
    exact (hown.lt g hgv).1

set_option maxHeartbeats 1000000 in
theorem lex_any (s : ByteArray) (w : World) (hs : s.size ≤ maxLen) :
    Calls Tryz.prog 59 #[.string s] w fun e w' => ∃ v, e = .returned (.tuple #[v, .agg #[.int .i64 (M.lex s.data.toList).2.1, .int .i64 (M.lex s.data.toList).2.2]]) ∧ w'.ownsRow w.heap.size 69 3 v (M.lex s.data.toList).1.length (M.row (M.lex s.data.toList).1) ∧ Below w.heap.size w w' := by
  have hs' := hs
  unfold maxLen at hs'
  by_cases hlong : 65536 < s.size
  · have HL : Hid (M.lex s.data.toList = ([], 11, 0)) := by unfold Hid M.lex; rw [if_pos (by rw [len_list]; exact hlong)]
    go_enter Tryz.func59, Tryz.ntmps59
    go_wp2
    go_step3
    go_wp2
    try rw [Exit.noGoto_ret]
    refine bodyPost_ret (v := .tuple #[.slice none 0 0, .agg #[.int .i64 11, .int .i64 0]]) (by simp [results, Tryz.results59, go_sem]) rfl ⟨.slice none 0 0, ?_, ?_, ?_⟩
    · rw [HL.out]
    · rw [HL.out]; exact World.ownsRow_nil _ _ _ _
    · exact (Below.refl _ _).alloc (Nat.le_refl _) _
  · have hdl : decide (65536 < (s.size : Int)) = false := by simp; omega
    have HLx : Hid (M.lex s.data.toList = (match M.lexF 0 s.data.toList with | .error e => ([], 10, (e : Int)) | .ok ts => (ts, 0, 0))) := by
      unfold Hid M.lex M.lexF; rw [if_neg (by rw [len_list]; exact hlong)]
      cases M.lexL s.data.toList.length 0 s.data.toList <;> rfl
    go_enter Tryz.func59, Tryz.ntmps59
    go_wp2
    go_step3
    go_wp2
    go_step3
    go_wp2
    go_loopw [4, 5] (fun v p w' => LexRel s w v p w') (fun _ p _ => s.size - (intOf p).toNat)
    case atStart => exact ⟨0, [], rfl, M.At.start _, World.ownsRow_nil _ _ _ _, Below.refl _ _⟩
    case round =>
      obtain ⟨k, acc, rfl, hat, hown, hbw⟩ := hrel
      have hk : k ≤ s.size := by have := hat.1; rw [len_list] at this; exact this
      obtain ⟨fc0, fc1, ff0, ff1⟩ := fault_cells hbw
      by_cases hlt : k < s.size
      · have hnx := M.nxt_at s.data.toList k (by rw [len_list]; exact hlt)
        rw [at_list s k hlt] at hnx
        by_cases k1 : M.cls s[k].toNat = 1
        · rw [if_pos k1] at hnx
          have HN := hid hnx
          clear hnx
          go_wp2_with (go_at_call 76; refine (classOf_byte _ _).mono ?_; rintro e w' ⟨rfl, rfl⟩)
          exact ⟨⟨k + 1, acc, by go_num, hat.skip HN.out, hown, hbw⟩, by simp [intOf]; omega⟩
        · rw [if_neg k1] at hnx
          by_cases k2 : M.cls s[k].toNat = 2
          · rw [if_pos k2] at hnx
            have HN := hid hnx
            clear hnx
            go_wp2_with (first | (go_at_call 76; refine (classOf_byte _ _).mono ?_; rintro e w' ⟨rfl, rfl⟩) | (go_at_call 77; refine (remarkEnd_any s k _ (by omega) hk).mono ?_; rintro e w' ⟨rfl, rfl⟩))
            have hge := M.ext_ge M.pNl s.data.toList k
            have hst := hat.skip HN.out
            have hnb := M.nxt_bounds HN.out
            rw [show k + (M.ext M.pNl s.data.toList k - k) = M.ext M.pNl s.data.toList k by omega] at hst
            exact ⟨⟨_, acc, rfl, hst, hown, hbw⟩, by simp [intOf]; omega⟩
          · rw [if_neg k2] at hnx
            by_cases k3 : M.cls s[k].toNat = 3
            · rw [if_pos k3] at hnx
              have HN := hid hnx
              clear hnx
              have hge := M.ext_ge M.pInn s.data.toList k
              have hle := M.ext_le M.pInn s.data.toList k (by rw [len_list]; exact hk)
              rw [len_list] at hle
              obtain ⟨i0, hi, hz0, hz1, hz2⟩ := info_parts infoTok
              have hal := hat.2.1
              go_wp2_with (first | (go_at_call 76; refine (classOf_byte _ _).mono ?_; rintro e w' ⟨rfl, rfl⟩) | (go_at_call 78; refine (wordEnd_any s k _ (by omega) hk).mono ?_; rintro e w' ⟨rfl, rfl⟩) | (go_at_call 81; refine (clone_any _ _ ?hc).mono ?_))
              case hc => simp; omega
              rintro e w2 ⟨rfl, hb2⟩
              have hown2 := ownsRow_below hown hb2
              have hz2' := hb2.size
              have hz1' := hbw.size
              simp at hz1'
              go_wp2_with (at_builtin; refine wpList_append_own _ rfl _ _ 60 rfl (w.heap.size + 1) 69 i0 (.agg #[.int .i64 0, .string ⟨#[]⟩, .int .i64 0]) 3 32 Tryz.underlying60 hi hz0 hz1 hz2 rfl (by decide) _ _ _ rfl (hown2.alloc _) ⟨w2.heap.size, 0, none⟩ 1 1 [.int .i64 0, .string (s.extract k (M.ext M.pInn s.data.toList k)), .int .i64 k] rfl rfl ?c1 ?c2 ?c3 ?c4 ?c5 ?_)
              case c1 => exact cell_three_new _ _ _ _ _
              case c2 => intro u hu; simp at hu; rcases hu with rfl | rfl | rfl <;> rfl
              case c3 => unfold maxLen; omega
              case c4 => omega
              case c5 => simp; omega
              intro v' w3 hown3 hgrow _
              go_wp2
              have hnb := M.nxt_bounds HN.out
              exact ⟨LexRel.next hat HN.out hge hbw hown hb2 _ hown3 hgrow, by simp [intOf]; omega⟩
            · rw [if_neg k3] at hnx
              by_cases k5 : M.cls s[k].toNat = 5
              · rw [if_pos k5] at hnx
                have HN := hid hnx
                clear hnx
                obtain ⟨i0, hi, hz0, hz1, hz2⟩ := info_parts infoTok
                have hal := hat.2.1
                go_wp2_with (first | (go_at_call 76; refine (classOf_byte _ _).mono ?_; rintro e w' ⟨rfl, rfl⟩) | (go_at_call 81; refine (clone_any _ _ ?hc).mono ?_))
                case hc => simp; omega
                rintro e w2 ⟨rfl, hb2⟩
                have hown2 := ownsRow_below hown hb2
                have hz2' := hb2.size
                have hz1' := hbw.size
                simp at hz1'
                go_wp2_with (at_builtin; refine wpList_append_own _ rfl _ _ 60 rfl (w.heap.size + 1) 69 i0 (.agg #[.int .i64 0, .string ⟨#[]⟩, .int .i64 0]) 3 32 Tryz.underlying60 hi hz0 hz1 hz2 rfl (by decide) _ _ _ rfl (hown2.alloc _) ⟨w2.heap.size, 0, none⟩ 1 1 [.int .i64 2, .string (s.extract k (k + 1)), .int .i64 k] rfl rfl ?c1 ?c2 ?c3 ?c4 ?c5 ?_)
                case c1 => exact cell_three_new _ _ _ _ _
                case c2 => intro u hu; simp at hu; rcases hu with rfl | rfl | rfl <;> rfl
                case c3 => unfold maxLen; omega
                case c4 => omega
                case c5 => simp; omega
                intro v' w3 hown3 hgrow _
                go_wp2
                have hnb := M.nxt_bounds HN.out
                exact ⟨LexRel.next (E := k + 1) hat (by rw [HN.out]; simp) (by omega) hbw hown hb2 _ hown3 hgrow, by simp [intOf]; omega⟩
              · rw [if_neg k5] at hnx
                by_cases k4 : M.cls s[k].toNat = 4
                · rw [if_pos k4] at hnx
                  have hge := M.ext_ge M.pDig s.data.toList k
                  have hle := M.ext_le M.pDig s.data.toList k (by rw [len_list]; exact hk)
                  rw [len_list] at hle
                  by_cases h9 : M.ext M.pDig s.data.toList k - k ≤ 9
                  · cases hg : M.goB s.data.toList (M.ext M.pDig s.data.toList k)
                    · rw [if_pos ⟨h9, hg⟩] at hnx
                      have h9' : (M.ext M.pDig s.data.toList k : Int) - k ≤ 9 := by omega
                      have HN := hid hnx
                      clear hnx
                      obtain ⟨i0, hi, hz0, hz1, hz2⟩ := info_parts infoTok
                      have hal := hat.2.1
                      go_wp2_with (first | (go_at_call 76; refine (classOf_byte _ _).mono ?_; rintro e w' ⟨rfl, rfl⟩) | (go_at_call 79; refine (digitsEnd_any s k _ (by omega) hk).mono ?_; rintro e w' ⟨rfl, rfl⟩) | (go_at_call 80; refine (goesOn_any s (M.ext M.pDig s.data.toList k) _ (by omega) hle).mono ?_; rintro e w' ⟨rfl, rfl⟩) | (go_at_call 81; refine (clone_any _ _ ?hc).mono ?_))
                      case hc => simp; omega
                      rintro e w2 ⟨rfl, hb2⟩
                      have hown2 := ownsRow_below hown hb2
                      have hz2' := hb2.size
                      have hz1' := hbw.size
                      simp at hz1'
                      go_wp2_with (at_builtin; refine wpList_append_own _ rfl _ _ 60 rfl (w.heap.size + 1) 69 i0 (.agg #[.int .i64 0, .string ⟨#[]⟩, .int .i64 0]) 3 32 Tryz.underlying60 hi hz0 hz1 hz2 rfl (by decide) _ _ _ rfl (hown2.alloc _) ⟨w2.heap.size, 0, none⟩ 1 1 [.int .i64 1, .string (s.extract k (M.ext M.pDig s.data.toList k)), .int .i64 k] rfl rfl ?c1 ?c2 ?c3 ?c4 ?c5 ?_)
                      case c1 => exact cell_three_new _ _ _ _ _
                      case c2 => intro u hu; simp at hu; rcases hu with rfl | rfl | rfl <;> rfl
                      case c3 => unfold maxLen; omega
                      case c4 => omega
                      case c5 => simp; omega
                      intro v' w3 hown3 hgrow _
                      go_wp2
                      have hnb := M.nxt_bounds HN.out
                      exact ⟨LexRel.next hat HN.out hge hbw hown hb2 _ hown3 hgrow, by simp [intOf]; omega⟩
                    · rw [if_neg (by rw [hg]; simp)] at hnx
                      have h9' : (M.ext M.pDig s.data.toList k : Int) - k ≤ 9 := by omega
                      have HN := hid hnx
                      clear hnx
                      have HR : Hid (M.lexF 0 s.data.toList = .error k) := hat.bad (by rw [len_list]; exact hlt) HN.out
                      go_wp2_with (first | (go_at_call 76; refine (classOf_byte _ _).mono ?_; rintro e w' ⟨rfl, rfl⟩) | (go_at_call 79; refine (digitsEnd_any s k _ (by omega) hk).mono ?_; rintro e w' ⟨rfl, rfl⟩) | (go_at_call 80; refine (goesOn_any s (M.ext M.pDig s.data.toList k) _ (by omega) hle).mono ?_; rintro e w' ⟨rfl, rfl⟩))
                      try rw [Exit.noGoto_ret]
                      refine bodyPost_ret (v := .tuple #[.slice none 0 0, .agg #[.int .i64 10, .int .i64 k]]) (by simp [results, Tryz.results59, go_sem, fc0, fc1]) rfl ⟨.slice none 0 0, ?_, ?_, ?_⟩
                      · rw [HLx.out, HR.out]
                      · rw [HLx.out, HR.out]
                        exact World.ownsRow_nil _ _ _ _
                      · exact ((((Below.refl _ _).alloc (Nat.le_refl _) _).trans (hbw.mono (Nat.le_succ _))).setCell (p := ⟨w.heap.size, 0, none⟩) (Nat.le_refl _) _).setCell (p := ⟨w.heap.size, 1, none⟩) (Nat.le_refl _) _
                  · rw [if_neg (by intro h; exact h9 h.1)] at hnx
                    have h9' : ¬ (M.ext M.pDig s.data.toList k : Int) - k ≤ 9 := by omega
                    have HN := hid hnx
                    clear hnx
                    have HR : Hid (M.lexF 0 s.data.toList = .error k) := hat.bad (by rw [len_list]; exact hlt) HN.out
                    go_wp2_with (first | (go_at_call 76; refine (classOf_byte _ _).mono ?_; rintro e w' ⟨rfl, rfl⟩) | (go_at_call 79; refine (digitsEnd_any s k _ (by omega) hk).mono ?_; rintro e w' ⟨rfl, rfl⟩))
                    try rw [Exit.noGoto_ret]
                    refine bodyPost_ret (v := .tuple #[.slice none 0 0, .agg #[.int .i64 10, .int .i64 k]]) (by simp [results, Tryz.results59, go_sem, fc0, fc1]) rfl ⟨.slice none 0 0, ?_, ?_, ?_⟩
                    · rw [HLx.out, HR.out]
                    · rw [HLx.out, HR.out]
                      exact World.ownsRow_nil _ _ _ _
                    · exact ((((Below.refl _ _).alloc (Nat.le_refl _) _).trans (hbw.mono (Nat.le_succ _))).setCell (p := ⟨w.heap.size, 0, none⟩) (Nat.le_refl _) _).setCell (p := ⟨w.heap.size, 1, none⟩) (Nat.le_refl _) _
                · rw [if_neg k4] at hnx
                  have HN := hid hnx
                  clear hnx
                  have HR : Hid (M.lexF 0 s.data.toList = .error k) := hat.bad (by rw [len_list]; exact hlt) HN.out
                  go_wp2_with (first | (go_at_call 76; refine (classOf_byte _ _).mono ?_; rintro e w' ⟨rfl, rfl⟩))
                  try rw [Exit.noGoto_ret]
                  refine bodyPost_ret (v := .tuple #[.slice none 0 0, .agg #[.int .i64 10, .int .i64 k]]) (by simp [results, Tryz.results59, go_sem, fc0, fc1]) rfl ⟨.slice none 0 0, ?_, ?_, ?_⟩
                  · rw [HLx.out, HR.out]
                  · rw [HLx.out, HR.out]
                    exact World.ownsRow_nil _ _ _ _
                  · exact ((((Below.refl _ _).alloc (Nat.le_refl _) _).trans (hbw.mono (Nat.le_succ _))).setCell (p := ⟨w.heap.size, 0, none⟩) (Nat.le_refl _) _).setCell (p := ⟨w.heap.size, 1, none⟩) (Nat.le_refl _) _
      · have HR : Hid (M.lexF 0 s.data.toList = .ok acc) := hat.done (by rw [len_list]; omega)
        go_wp2
        try rw [Exit.noGoto_ret]
        refine bodyPost_ret (v := .tuple #[u4, .agg #[.int .i64 0, .int .i64 0]]) (by simp [results, Tryz.results59, go_sem, fc0, fc1]) rfl ⟨u4, ?_, ?_, ?_⟩
        · rw [HLx.out, HR.out]
        · rw [HLx.out, HR.out]
          exact ownsRow_base (ownsRow_setCell_below (ownsRow_setCell_below hown (Nat.lt_succ_self _) _) (Nat.lt_succ_self _) _) (Nat.le_succ _)
        · exact ((((Below.refl _ _).alloc (Nat.le_refl _) _).trans (hbw.mono (Nat.le_succ _))).setCell (p := ⟨w.heap.size, 0, none⟩) (Nat.le_refl _) _).setCell (p := ⟨w.heap.size, 1, none⟩) (Nat.le_refl _) _
end Go.Proofs.YtkpmpnebmkeocaaGreatDoor
end
section
namespace Go.Proofs.YtkpmpnebmkeocaaGreatDoor
open Go.RowKit

theorem row_get (ts : List M.Tok) (i : Nat) (h : i < ts.length) : (M.row ts)[i * 3]? = some (.int .i64 ts[i].k) ∧ (M.row ts)[i * 3 + 1]? = some (.string ts[i].t) ∧ (M.row ts)[i * 3 + 2]? = some (.int .i64 ts[i].p) := by
  induction ts generalizing i with
  | nil => simp at h
  | cons x r ih =>
    have e : M.row (x :: r) = .int .i64 x.k :: .string x.t :: .int .i64 x.p :: M.row r := by simp [M.row, M.Tok.cells]
    cases i with
    | zero => rw [e]; exact ⟨rfl, rfl, rfl⟩
    | succ j =>
      obtain ⟨h1, h2, h3⟩ := ih j (by simpa using h)
      rw [e, show (j + 1) * 3 = j * 3 + 1 + 1 + 1 by omega]
      refine ⟨?_, ?_, ?_⟩
      · simpa using h1
      · simpa using h2
      · simpa using h3

theorem add0 (g j : Nat) : (⟨g, 0, none⟩ : Addr).add j = ⟨g, 0 + j, none⟩ := by
  unfold Addr.add
  split
  · rename_i h; rw [h]
  · rfl

theorem tokAt_of_owns {w : World} {base : Nat} {v : Value} {ts : List M.Tok} (h : w.ownsRow base 69 3 v ts.length (M.row ts)) (hl : ts.length ≤ 140737488355328) (hs : ∀ x, x ∈ ts → x.t.size ≤ maxLen) : TokAt w v ts := by
  refine ⟨hl, hs, ?_⟩
  have hc := fun g hg => h.cells (g := g) hg
  rcases h.2 with ⟨rfl, h0⟩ | ⟨g, cap, cur, rfl, hb, hh, _⟩
  · exact ⟨none, 0, by rw [h0], .inl (List.length_eq_zero_iff.1 h0)⟩
  · refine ⟨some ⟨g, 0, none⟩, cap, rfl, .inr ⟨g, 0, rfl, (Array.getElem?_eq_some_iff.1 hh).1, fun i hi => ?_⟩⟩
    obtain ⟨r1, r2, r3⟩ := row_get ts i hi
    have c1 := hc g rfl _ _ r1
    have c2 := hc g rfl _ _ r2
    have c3 := hc g rfl _ _ r3
    rw [add0] at c1 c2 c3
    exact ⟨c1, c2, c3⟩

theorem lex_tokAt {w : World} {base : Nat} {v : Value} {l : List UInt8} (h : w.ownsRow base 69 3 v (M.lex l).1.length (M.row (M.lex l).1)) : TokAt w v (M.lex l).1 := by
  obtain ⟨h1, h2⟩ := M.lex_small l
  exact tokAt_of_owns h (by omega) fun x hx => by have := h2 x hx; unfold maxLen; omega

theorem TokAt.keep {w w' : World} {v : Value} {ts : List M.Tok} (h : TokAt w v ts) (hb : Below w.heap.size w w') : TokAt w' v ts := by
  obtain ⟨h1, h2, a, cap, rfl, h3⟩ := h
  refine ⟨h1, h2, a, cap, rfl, ?_⟩
  rcases h3 with h3 | ⟨b, o, rfl, hlt, hc⟩
  · exact .inl h3
  · refine .inr ⟨b, o, rfl, Nat.lt_of_lt_of_le hlt hb.size, fun i hi => ?_⟩
    obtain ⟨c1, c2, c3⟩ := hc i hi
    exact ⟨by rw [hb.cell (p := ⟨b, o + i * 3, none⟩) hlt]; exact c1, by rw [hb.cell (p := ⟨b, o + i * 3 + 1, none⟩) hlt]; exact c2, by rw [hb.cell (p := ⟨b, o + i * 3 + 2, none⟩) hlt]; exact c3⟩

theorem TokAt.alloc {w : World} {v : Value} {ts : List M.Tok} (h : TokAt w v ts) (o : Obj) : TokAt (w.alloc o) v ts := h.keep ((Below.refl _ _).alloc (Nat.le_refl _) o)
theorem below_drewN {B : Nat} {a w : World} (h : Below B a w) (n : Nat) : Below B a (w.drewN n) := ⟨h.os, h.tape, h.output, h.size, h.block⟩
theorem TokAt.drewN {w : World} {v : Value} {ts : List M.Tok} (h : TokAt w v ts) (n : Nat) : TokAt (w.drewN n) v ts := h.keep (below_drewN (Below.refl _ _) n)

end Go.Proofs.YtkpmpnebmkeocaaGreatDoor
end
section
namespace Go.Proofs.YtkpmpnebmkeocaaGreatDoor
open Go.RowKit

theorem cls1 (c : Int) : M.cls c = 1 ↔ (c = 9 ∨ c = 10 ∨ c = 13 ∨ c = 32) := by unfold M.cls; repeat (split; omega); omega
theorem cls3 (c : Int) : M.cls c = 3 ↔ ((97 ≤ c ∧ c ≤ 122) ∨ (65 ≤ c ∧ c ≤ 90)) := by unfold M.cls; repeat (split; omega); omega
theorem cls4 (c : Int) : M.cls c = 4 ↔ (48 ≤ c ∧ c ≤ 57) := by unfold M.cls; repeat (split; omega); omega
theorem cls6 (c : Int) : M.cls c = 6 ↔ c = 95 := by unfold M.cls; repeat (split; omega); omega
theorem cls2 (c : Int) : M.cls c = 2 ↔ c = 35 := by unfold M.cls; repeat (split; omega); omega
theorem cls5 (c : Int) : M.cls c = 5 ↔ (c = 123 ∨ c = 125 ∨ c = 40 ∨ c = 41 ∨ c = 44 ∨ c = 59 ∨ c = 46 ∨ c = 61 ∨ c = 43 ∨ c = 45 ∨ c = 42 ∨ c = 60 ∨ c = 38 ∨ c = 58) := by unfold M.cls; repeat (split; omega); omega

def isC (k : Int) (b : UInt8) : Bool := decide (M.cls b.toNat = k)
theorem isC_true {k : Int} {b : UInt8} (h : M.cls b.toNat = k) : isC k b = true := decide_eq_true h
theorem isC_false {k : Int} {b : UInt8} (h : ¬ M.cls b.toNat = k) : isC k b = false := decide_eq_false h

set_option maxHeartbeats 400000 in
theorem rBlank_any (b : UInt8) (w : World) :
    Calls Tryz.prog 48 #[.int .u8 b.toNat] w fun e w' => e = .returned (.bool (isC 1 b)) ∧ w' = w := by
  obtain ⟨c, hc⟩ : ∃ c : Int, (b.toNat : Int) = c := ⟨_, rfl⟩
  have HC : Hid ((b.toNat : Int) = c) := hc
  rw [hc]
  clear hc
  go_enter Tryz.func48, Tryz.ntmps48
  go_wp2
  all_goals
    go_ret
    refine ⟨ret_bool ?_, rfl⟩
    rw [isC, HC.out, Bool.eq_iff_iff]
    simp [cls1]
    try omega

set_option maxHeartbeats 400000 in
theorem rLetter_any (b : UInt8) (w : World) :
    Calls Tryz.prog 49 #[.int .u8 b.toNat] w fun e w' => e = .returned (.bool (isC 3 b)) ∧ w' = w := by
  obtain ⟨c, hc⟩ : ∃ c : Int, (b.toNat : Int) = c := ⟨_, rfl⟩
  have HC : Hid ((b.toNat : Int) = c) := hc
  rw [hc]
  clear hc
  go_enter Tryz.func49, Tryz.ntmps49
  go_wp2
  all_goals
    go_ret
    refine ⟨ret_bool ?_, rfl⟩
    rw [isC, HC.out, Bool.eq_iff_iff]
    simp [cls3]
    try omega

set_option maxHeartbeats 400000 in
theorem rDigit_any (b : UInt8) (w : World) :
    Calls Tryz.prog 51 #[.int .u8 b.toNat] w fun e w' => e = .returned (.bool (isC 4 b)) ∧ w' = w := by
  obtain ⟨c, hc⟩ : ∃ c : Int, (b.toNat : Int) = c := ⟨_, rfl⟩
  have HC : Hid ((b.toNat : Int) = c) := hc
  rw [hc]
  clear hc
  go_enter Tryz.func51, Tryz.ntmps51
  go_wp2
  all_goals
    go_ret
    refine ⟨ret_bool ?_, rfl⟩
    rw [isC, HC.out, Bool.eq_iff_iff]
    simp [cls4]
    try omega

set_option maxHeartbeats 400000 in
theorem rInner_any (b : UInt8) (w : World) :
    Calls Tryz.prog 50 #[.int .u8 b.toNat] w fun e w' => e = .returned (.bool (M.pInn b)) ∧ w' = w := by
  by_cases h3 : M.cls b.toNat = 3
  · have HP : Hid (M.pInn b = true) := M.cls_pInn b (.inl h3)
    have hi := isC_true h3
    clear h3
    go_enter Tryz.func50, Tryz.ntmps50
    go_wp2_with (go_at_call 49; refine (rLetter_any _ _).mono ?_; rintro e w' ⟨rfl, rfl⟩)
    go_ret
    exact ⟨ret_bool HP.out.symm, rfl⟩
  · by_cases h4 : M.cls b.toNat = 4
    · have HP : Hid (M.pInn b = true) := M.cls_pInn b (.inr (.inl h4))
      have hi := isC_false h3
      have hi4 := isC_true h4
      clear h3 h4
      go_enter Tryz.func50, Tryz.ntmps50
      go_wp2_with (first | (go_at_call 49; refine (rLetter_any _ _).mono ?_; rintro e w' ⟨rfl, rfl⟩) | (go_at_call 51; refine (rDigit_any _ _).mono ?_; rintro e w' ⟨rfl, rfl⟩))
      go_ret
      exact ⟨ret_bool HP.out.symm, rfl⟩
    · have HP : Hid (M.pInn b = (((b.toNat : Int)) == 95)) := by
        unfold Hid
        rw [Bool.eq_iff_iff]
        simp [M.pInn, h3, h4, cls6]
      have hi := isC_false h3
      have hi4 := isC_false h4
      clear h3 h4
      go_enter Tryz.func50, Tryz.ntmps50
      go_wp2_with (first | (go_at_call 49; refine (rLetter_any _ _).mono ?_; rintro e w' ⟨rfl, rfl⟩) | (go_at_call 51; refine (rDigit_any _ _).mono ?_; rintro e w' ⟨rfl, rfl⟩))
      go_ret
      exact ⟨ret_bool HP.out.symm, rfl⟩

def sg : ByteArray := ⟨#[123, 125, 40, 41, 44, 59, 46, 61, 43, 45, 42, 60, 38, 58]⟩
theorem sg_cls : ∀ j : Fin 14, M.cls (sg[j.val]'j.isLt).toNat = 5 := by decide
theorem sg_has (c : Int) (h : M.cls c = 5) : ∃ j : Fin 14, ((sg[j.val]'j.isLt).toNat : Int) = c := by
  rw [cls5] at h
  rcases h with rfl | rfl | rfl | rfl | rfl | rfl | rfl | rfl | rfl | rfl | rfl | rfl | rfl | rfl
  · exact ⟨0, rfl⟩
  · exact ⟨1, rfl⟩
  · exact ⟨2, rfl⟩
  · exact ⟨3, rfl⟩
  · exact ⟨4, rfl⟩
  · exact ⟨5, rfl⟩
  · exact ⟨6, rfl⟩
  · exact ⟨7, rfl⟩
  · exact ⟨8, rfl⟩
  · exact ⟨9, rfl⟩
  · exact ⟨10, rfl⟩
  · exact ⟨11, rfl⟩
  · exact ⟨12, rfl⟩
  · exact ⟨13, rfl⟩

set_option maxHeartbeats 400000 in
theorem rSign_any (b : UInt8) (w : World) :
    Calls Tryz.prog 52 #[.int .u8 b.toNat] w fun e w' => e = .returned (.bool (isC 5 b)) ∧ w' = w := by
  go_enter Tryz.func52, Tryz.ntmps52
  go_wp2
  go_loop [4] (fun i => ∃ j : Nat, j ≤ 14 ∧ i = .int .i64 j ∧ ∀ i (h : i < 14), i < j → ¬ (sg[i]'h).toNat = b.toNat) (fun i => 14 - (intOf i).toNat)
  case atStart => exact ⟨0, by omega, rfl, fun i _ h => by omega⟩
  case round =>
    obtain ⟨j, hj, rfl, hn⟩ := hrel
    have HN := hid hn
    clear hn
    by_cases hlt : j < 14
    · by_cases he : (sg[j]'hlt).toNat = b.toNat
      · have hb : (((((⟨#[123, 125, 40, 41, 44, 59, 46, 61, 43, 45, 42, 60, 38, 58]⟩ : ByteArray)[j]'hlt).toNat : Int)) == (b.toNat : Int)) = true := beq_iff_eq.2 (congrArg (fun n : Nat => (n : Int)) he)
        have HE := hid he
        clear he
        go_wp2
        go_ret
        refine ⟨ret_bool ?_, rfl⟩
        rw [isC_true]
        have := sg_cls ⟨j, hlt⟩
        simp only at this
        rw [HE.out] at this
        exact this
      · have hb : (((((⟨#[123, 125, 40, 41, 44, 59, 46, 61, 43, 45, 42, 60, 38, 58]⟩ : ByteArray)[j]'hlt).toNat : Int)) == (b.toNat : Int)) = false := beq_eq_false_iff_ne.2 (fun h => he (Int.ofNat.inj h))
        have HE := hid he
        clear he
        go_wp2
        refine ⟨⟨j + 1, by omega, by go_num, fun i h hi => ?_⟩, by simp [intOf]; omega⟩
        by_cases hij : i = j
        · subst hij; exact HE.out
        · exact HN.out i h (by omega)
    · go_wp2
      go_ret
      refine ⟨ret_bool ?_, rfl⟩
      rw [isC_false]
      intro h
      obtain ⟨i, hi⟩ := sg_has _ h
      exact HN.out i.val i.isLt (by omega) (by omega)
end Go.Proofs.YtkpmpnebmkeocaaGreatDoor
end
section
namespace Go.Proofs.YtkpmpnebmkeocaaGreatDoor
open Go.RowKit

theorem one3 (a : Int) (b : ByteArray) (c : Int) : ∀ u, u ∈ [Value.int .i64 a, .string b, .int .i64 c] → u.oneCell' = true := by
  intro u hu; simp at hu; rcases hu with rfl | rfl | rfl <;> rfl
theorem base_le {w w' : World} {o' : Obj} (h : Below (w.heap.size + 1) (w.alloc o') w') (o : Obj) : w.heap.size + 1 ≤ (w'.alloc o).heap.size := by
  have := h.size
  simp at this ⊢; omega

def Ans (x : Value) (w : World) (e : Ending) (w' : World) : Prop := e = .returned x ∧ w' = w
theorem rInner_hid (b : UInt8) (w : World) : Calls Tryz.prog 50 #[.int .u8 b.toNat] w (Ans (.bool (M.pInn b)) w) := rInner_any b w
theorem rSign_hid (b : UInt8) (w : World) : Calls Tryz.prog 52 #[.int .u8 b.toNat] w (Ans (.bool (isC 5 b)) w) := rSign_any b w

set_option maxHeartbeats 2000000 in
set_option maxRecDepth 100000 in
theorem rLex_any (s : ByteArray) (w : World) (hs : s.size ≤ maxLen) :
    Calls Tryz.prog 29 #[.string s] w fun e w' => ∃ v, e = .returned (.tuple #[v, .agg #[.int .i64 (M.lex s.data.toList).2.1, .int .i64 (M.lex s.data.toList).2.2]]) ∧ w'.ownsRow w.heap.size 69 3 v (M.lex s.data.toList).1.length (M.row (M.lex s.data.toList).1) ∧ Below w.heap.size w w' := by
  have hs' := hs
  unfold maxLen at hs'
  by_cases hlong : 65536 < s.size
  · have HL : Hid (M.lex s.data.toList = ([], 11, 0)) := M.lex_long (by rw [len_list]; exact hlong)
    go_enter Tryz.func29, Tryz.ntmps29
    go_wp2
    refine bodyPost_ret (v := .tuple #[.slice none 0 0, .agg #[.int .i64 11, .int .i64 0]]) (by simp [results, Tryz.results29, go_sem]) rfl ⟨.slice none 0 0, ?_, ?_, ?_⟩
    · rw [HL.out]
    · rw [HL.out]; exact World.ownsRow_nil _ _ _ _
    · exact (Below.refl _ _).alloc (Nat.le_refl _) _
  · have hdl : decide (65536 < (s.size : Int)) = false := by simp; omega
    have hl6 : s.data.toList.length ≤ 65536 := by rw [len_list]; omega
    go_enter Tryz.func29, Tryz.ntmps29
    go_wp2
    go_loopw [4, 5] (fun v p w' => LexRel s w v p w') (fun _ p _ => s.size - (intOf p).toNat)
    case atStart =>
      refine ⟨0, [], rfl, M.At.start _, ?_, (Below.refl _ _).alloc (by simp) _⟩
      have := World.ownsRow_made (base := w.heap.size + 1) (e := 69) (size := 3) (w.alloc (.cells #[.int .i64 0, .int .i64 0] 39)) #[] 0 (by simp) (by unfold maxLen; omega) rfl
      rw [World.size_alloc] at this
      exact this
    case round =>
      obtain ⟨k, acc, rfl, hat, hown, hbw⟩ := hrel
      have hk : k ≤ s.size := by have := hat.1; rw [len_list] at this; exact this
      obtain ⟨fc0, fc1, ff0, ff1⟩ := fault_cells hbw
      by_cases hlt : k < s.size
      · have hnx := M.nxt_at s.data.toList k (by rw [len_list]; exact hlt)
        rw [at_list s k hlt] at hnx
        by_cases k1 : M.cls s[k].toNat = 1
        · rw [if_pos k1] at hnx
          have HN := hid hnx
          clear hnx
          have i1 := isC_true k1
          go_wp2_with (first | (go_at_call 48; refine (rBlank_any _ _).mono ?_; rintro e w' ⟨rfl, rfl⟩) | (go_at_call 49; refine (rLetter_any _ _).mono ?_; rintro e w' ⟨rfl, rfl⟩) | (go_at_call 50; refine (rInner_any _ _).mono ?_; rintro e w' ⟨rfl, rfl⟩) | (go_at_call 51; refine (rDigit_any _ _).mono ?_; rintro e w' ⟨rfl, rfl⟩) | (go_at_call 52; refine (rSign_any _ _).mono ?_; rintro e w' ⟨rfl, rfl⟩))
          exact ⟨⟨k + 1, acc, by go_num, hat.skip HN.out, hown, hbw⟩, by simp [intOf]; omega⟩
        · rw [if_neg k1] at hnx
          have i1 := isC_false k1
          by_cases k2 : M.cls s[k].toNat = 2
          · rw [if_pos k2] at hnx
            have HN := hid hnx
            clear hnx
            have hh : ((s[k].toNat : Int) == 35) = true := beq_iff_eq.2 ((cls2 _).1 k2)
            clear k1 k2
            go_wp2_with (first | (go_at_call 48; refine (rBlank_any _ _).mono ?_; rintro e w' ⟨rfl, rfl⟩) | (go_at_call 49; refine (rLetter_any _ _).mono ?_; rintro e w' ⟨rfl, rfl⟩) | (go_at_call 50; refine (rInner_any _ _).mono ?_; rintro e w' ⟨rfl, rfl⟩) | (go_at_call 51; refine (rDigit_any _ _).mono ?_; rintro e w' ⟨rfl, rfl⟩) | (go_at_call 52; refine (rSign_any _ _).mono ?_; rintro e w' ⟨rfl, rfl⟩))
            go_loop [5] (fun i => ∃ j : Nat, k ≤ j ∧ j ≤ s.size ∧ i = .int .i64 j ∧ M.ext M.pNl s.data.toList j = M.ext M.pNl s.data.toList k) (fun i => s.size - (intOf i).toNat)
            case atStart => exact ⟨k, Nat.le_refl _, hk, rfl, rfl⟩
            case round =>
              obtain ⟨j, hkj, hj, rfl, hx⟩ := hrel
              have HX := hid hx
              clear hx
              have hst := hat.skip HN.out
              have hnb := M.nxt_bounds HN.out
              have hge := M.ext_ge M.pNl s.data.toList k
              rw [show k + (M.ext M.pNl s.data.toList k - k) = M.ext M.pNl s.data.toList k by omega] at hst
              have HST := hid hst
              clear hst
              by_cases hjl : j < s.size
              · by_cases h10 : s[j].toNat = 10
                · have hb10 : ((s[j].toNat : Int) != 10) = false := by simp; omega
                  have he := M.ext_no M.pNl s.data.toList j (by rw [len_list]; exact hjl) (decide_eq_false (by rw [at_list s j hjl]; simp; exact h10))
                  have HE : Hid (M.ext M.pNl s.data.toList k = j) := by unfold Hid; rw [← HX.out]; exact he
                  clear he h10
                  go_wp2
                  have := HE.out
                  have hst := HST.out
                  rw [this] at hst
                  exact ⟨⟨j, acc, rfl, hst, hown, hbw⟩, by simp [intOf]; omega⟩
                · have hb10 : ((s[j].toNat : Int) != 10) = true := by simp; omega
                  have he := M.ext_yes M.pNl s.data.toList j (by rw [len_list]; exact hjl) (decide_eq_true (by rw [at_list s j hjl]; exact h10))
                  have HE : Hid (M.ext M.pNl s.data.toList (j + 1) = M.ext M.pNl s.data.toList k) := by unfold Hid; rw [← HX.out]; exact he.symm
                  clear he h10
                  go_wp2
                  exact ⟨⟨j + 1, by omega, by omega, by go_num, HE.out⟩, by simp [intOf]; omega⟩
              · have he := M.ext_end M.pNl s.data.toList j (by rw [len_list]; omega)
                have HE : Hid (M.ext M.pNl s.data.toList k = j) := by unfold Hid; rw [← HX.out]; exact he
                clear he
                go_wp2
                have := HE.out
                have hst := HST.out
                rw [this] at hst
                exact ⟨⟨j, acc, rfl, hst, hown, hbw⟩, by simp [intOf]; omega⟩
          · rw [if_neg k2] at hnx
            have hh : ((s[k].toNat : Int) == 35) = false := beq_eq_false_iff_ne.2 (fun h => k2 ((cls2 _).2 h))
            obtain ⟨i0, hi, hz0, hz1, hz2⟩ := info_parts infoTok
            have hal := hat.2.1
            have q63 : acc.length + 1 ≤ maxLen := by unfold maxLen; omega
            have qb : (acc.length + 1) * 32 ≤ 140737488355328 := by omega
            by_cases k3 : M.cls s[k].toNat = 3
            · rw [if_pos k3] at hnx
              have i3 := isC_true k3
              have HN := hid hnx
              have HY := hid (M.ext_yes M.pInn s.data.toList k (by rw [len_list]; exact hlt) (by rw [at_list s k hlt]; exact M.cls_pInn _ (.inl k3)))
              clear hnx k1 k2 k3
              go_wp2_with (first | (go_at_call 48; refine (rBlank_any _ _).mono ?_; rintro e w' ⟨rfl, rfl⟩) | (go_at_call 49; refine (rLetter_any _ _).mono ?_; rintro e w' ⟨rfl, rfl⟩) | (go_at_call 50; refine (rInner_any _ _).mono ?_; rintro e w' ⟨rfl, rfl⟩) | (go_at_call 51; refine (rDigit_any _ _).mono ?_; rintro e w' ⟨rfl, rfl⟩) | (go_at_call 52; refine (rSign_any _ _).mono ?_; rintro e w' ⟨rfl, rfl⟩))
              go_loop [7] (fun i => ∃ j : Nat, k + 1 ≤ j ∧ j ≤ s.size ∧ i = .int .i64 j ∧ M.ext M.pInn s.data.toList j = M.ext M.pInn s.data.toList k) (fun i => s.size - (intOf i).toNat)
              case atStart => exact ⟨k + 1, Nat.le_refl _, by omega, by go_num, HY.out.symm⟩
              case round =>
                obtain ⟨j, hkj, hj, rfl, hx⟩ := hrel
                have HX := hid hx
                clear hx
                by_cases hjl : j < s.size
                · cases hin : M.pInn s[j]
                  · have HE : Hid (M.ext M.pInn s.data.toList k = j) := by
                      unfold Hid; rw [← HX.out]; exact M.ext_no _ _ _ (by rw [len_list]; exact hjl) (by rw [at_list s j hjl]; exact hin)
                    go_wp2_with (go_at_call 50; refine (rInner_hid _ _).mono ?_)
                    rintro e w' hww
                    obtain ⟨rfl, rfl⟩ := hww
                    go_wp2_with (at_builtin; refine wpList_append_own _ rfl _ _ 60 rfl (w.heap.size + 1) 69 i0 (.agg #[.int .i64 0, .string ⟨#[]⟩, .int .i64 0]) 3 32 Tryz.underlying60 hi hz0 hz1 hz2 rfl (by decide) _ _ _ rfl (hown.alloc _) ⟨w'.heap.size, 0, none⟩ 1 1 [.int .i64 0, .string (s.extract k (j)), .int .i64 k] rfl rfl (cell_three_new _ _ _ _ _) (one3 _ _ _) q63 qb (base_le hbw _) ?_)
                    intro v' w3 hown3 hgrow _
                    go_wp2
                    exact ⟨LexRel.next (E := j) hat (by rw [HN.out, HE.out]) (by omega) hbw hown (Below.refl _ _) _ hown3 hgrow, by simp [intOf]; omega⟩

                  · have HE : Hid (M.ext M.pInn s.data.toList (j + 1) = M.ext M.pInn s.data.toList k) := by
                      unfold Hid; rw [← HX.out]; exact (M.ext_yes _ _ _ (by rw [len_list]; exact hjl) (by rw [at_list s j hjl]; exact hin)).symm
                    go_wp2_with (first | (go_at_call 48; refine (rBlank_any _ _).mono ?_; rintro e w' ⟨rfl, rfl⟩) | (go_at_call 49; refine (rLetter_any _ _).mono ?_; rintro e w' ⟨rfl, rfl⟩) | (go_at_call 50; refine (rInner_any _ _).mono ?_; rintro e w' ⟨rfl, rfl⟩) | (go_at_call 51; refine (rDigit_any _ _).mono ?_; rintro e w' ⟨rfl, rfl⟩) | (go_at_call 52; refine (rSign_any _ _).mono ?_; rintro e w' ⟨rfl, rfl⟩))
                    exact ⟨⟨j + 1, by omega, by omega, by go_num, HE.out⟩, by simp [intOf]; omega⟩
                · have HE : Hid (M.ext M.pInn s.data.toList k = j) := by
                    unfold Hid; rw [← HX.out]; exact M.ext_end _ _ _ (by rw [len_list]; omega)
                  go_wp2_with (at_builtin; refine wpList_append_own _ rfl _ _ 60 rfl (w.heap.size + 1) 69 i0 (.agg #[.int .i64 0, .string ⟨#[]⟩, .int .i64 0]) 3 32 Tryz.underlying60 hi hz0 hz1 hz2 rfl (by decide) _ _ _ rfl (hown.alloc _) ⟨w'.heap.size, 0, none⟩ 1 1 [.int .i64 0, .string (s.extract k (j)), .int .i64 k] rfl rfl (cell_three_new _ _ _ _ _) (one3 _ _ _) q63 qb (base_le hbw _) ?_)
                  intro v' w3 hown3 hgrow _
                  go_wp2
                  exact ⟨LexRel.next (E := j) hat (by rw [HN.out, HE.out]) (by omega) hbw hown (Below.refl _ _) _ hown3 hgrow, by simp [intOf]; omega⟩

            · rw [if_neg k3] at hnx
              have i3 := isC_false k3
              by_cases k5 : M.cls s[k].toNat = 5
              · rw [if_pos k5] at hnx
                have i4 : isC 4 s[k] = false := isC_false (by rw [k5]; decide)
                have i5 := isC_true k5
                have HN := hid hnx
                clear hnx k1 k2 k3 k5
                go_wp2_with (first | (go_at_call 48; refine (rBlank_any _ _).mono ?_; rintro e w' ⟨rfl, rfl⟩) | (go_at_call 49; refine (rLetter_any _ _).mono ?_; rintro e w' ⟨rfl, rfl⟩) | (go_at_call 51; refine (rDigit_any _ _).mono ?_; rintro e w' ⟨rfl, rfl⟩) | (go_at_call 52; refine (rSign_hid _ _).mono ?_))
                rintro e w' hww
                obtain ⟨rfl, rfl⟩ := hww
                go_wp2_with (at_builtin; refine wpList_append_own _ rfl _ _ 60 rfl (w.heap.size + 1) 69 i0 (.agg #[.int .i64 0, .string ⟨#[]⟩, .int .i64 0]) 3 32 Tryz.underlying60 hi hz0 hz1 hz2 rfl (by decide) _ _ _ rfl (hown.alloc _) ⟨w'.heap.size, 0, none⟩ 1 1 [.int .i64 2, .string (s.extract k (k + 1)), .int .i64 k] rfl rfl (cell_three_new _ _ _ _ _) (one3 _ _ _) q63 qb (base_le hbw _) ?_)
                intro v' w3 hown3 hgrow _
                go_wp2
                exact ⟨LexRel.next (E := k + 1) hat (by rw [HN.out]; simp) (by omega) hbw hown (Below.refl _ _) _ hown3 hgrow, by simp [intOf]; omega⟩

              · rw [if_neg k5] at hnx
                have i5 := isC_false k5
                by_cases k4 : M.cls s[k].toNat = 4
                · rw [if_pos k4] at hnx
                  have i4 := isC_true k4
                  have HNX := hid hnx
                  have HY := hid (M.ext_yes M.pDig s.data.toList k (by rw [len_list]; exact hlt) (by rw [at_list s k hlt]; exact M.cls_pDig _ k4))
                  clear hnx k1 k2 k3 k4 k5
                  go_wp2_with (first | (go_at_call 48; refine (rBlank_any _ _).mono ?_; rintro e w' ⟨rfl, rfl⟩) | (go_at_call 49; refine (rLetter_any _ _).mono ?_; rintro e w' ⟨rfl, rfl⟩) | (go_at_call 50; refine (rInner_any _ _).mono ?_; rintro e w' ⟨rfl, rfl⟩) | (go_at_call 51; refine (rDigit_any _ _).mono ?_; rintro e w' ⟨rfl, rfl⟩) | (go_at_call 52; refine (rSign_any _ _).mono ?_; rintro e w' ⟨rfl, rfl⟩))
                  go_loop [7] (fun i => ∃ j : Nat, k + 1 ≤ j ∧ j ≤ s.size ∧ i = .int .i64 j ∧ M.ext M.pDig s.data.toList j = M.ext M.pDig s.data.toList k) (fun i => s.size - (intOf i).toNat)
                  case atStart => exact ⟨k + 1, Nat.le_refl _, by omega, by go_num, HY.out.symm⟩
                  case round =>
                    obtain ⟨j, hkj, hj, rfl, hx⟩ := hrel
                    have HX := hid hx
                    clear hx
                    by_cases hjl : j < s.size
                    · cases hin : M.pInn s[j]
                      · have HE : Hid (M.ext M.pDig s.data.toList k = j) := by
                          unfold Hid; rw [← HX.out]; exact M.ext_no _ _ _ (by rw [len_list]; exact hjl) (by rw [at_list s j hjl]; exact M.pDig_pInn hin)
                        have HG : Hid (M.goB s.data.toList j = false) := by
                          unfold Hid; rw [M.goB_in _ _ (by rw [len_list]; exact hjl), at_list s j hjl]; exact hin
                        by_cases h9 : j - k ≤ 9
                        · have HN : Hid (M.nxt (s.data.toList.drop k) = some (some 1, j - k)) := by
                            unfold Hid; rw [HNX.out, HE.out, if_pos ⟨h9, HG.out⟩]
                          have h9' : (j : Int) - k ≤ 9 := by omega
                          go_wp2_with (go_at_call 50; refine (rInner_hid _ _).mono ?_)
                          rintro e w' hww
                          obtain ⟨rfl, rfl⟩ := hww
                          go_wp2_with (at_builtin; refine wpList_append_own _ rfl _ _ 60 rfl (w.heap.size + 1) 69 i0 (.agg #[.int .i64 0, .string ⟨#[]⟩, .int .i64 0]) 3 32 Tryz.underlying60 hi hz0 hz1 hz2 rfl (by decide) _ _ _ rfl (hown.alloc _) ⟨w'.heap.size, 0, none⟩ 1 1 [.int .i64 1, .string (s.extract k (j)), .int .i64 k] rfl rfl (cell_three_new _ _ _ _ _) (one3 _ _ _) q63 qb (base_le hbw _) ?_)
                          intro v' w3 hown3 hgrow _
                          go_wp2
                          exact ⟨LexRel.next (E := j) hat HN.out (by omega) hbw hown (Below.refl _ _) _ hown3 hgrow, by simp [intOf]; omega⟩
                        · have HN : Hid (M.nxt (s.data.toList.drop k) = none) := by
                            unfold Hid; rw [HNX.out, HE.out, if_neg (fun h => h9 h.1)]
                          have HR : Hid (M.lexF 0 s.data.toList = .error k) := hat.bad (by rw [len_list]; exact hlt) HN.out
                          have h9' : ¬ (j : Int) - k ≤ 9 := by omega
                          go_wp2_with (first | (go_at_call 50; refine (rInner_any _ _).mono ?_; rintro e w' ⟨rfl, rfl⟩) | (go_at_call 51; refine (rDigit_any _ _).mono ?_; rintro e w' ⟨rfl, rfl⟩))
                          refine bodyPost_ret (v := .tuple #[.slice none 0 0, .agg #[.int .i64 10, .int .i64 k]]) (by simp [results, Tryz.results29, go_sem, fc0, fc1]) rfl ⟨.slice none 0 0, ?_, ?_, ?_⟩
                          · rw [M.lex_of_error hl6 HR.out]
                          · rw [M.lex_of_error hl6 HR.out]
                            exact World.ownsRow_nil _ _ _ _
                          · exact ((((Below.refl _ _).alloc (Nat.le_refl _) _).trans (hbw.mono (Nat.le_succ _))).setCell (p := ⟨w.heap.size, 0, none⟩) (Nat.le_refl _) _).setCell (p := ⟨w.heap.size, 1, none⟩) (Nat.le_refl _) _
                      · by_cases d4 : M.cls s[j].toNat = 4
                        · have j4 := isC_true d4
                          have HE : Hid (M.ext M.pDig s.data.toList (j + 1) = M.ext M.pDig s.data.toList k) := by
                            unfold Hid; rw [← HX.out]; exact (M.ext_yes _ _ _ (by rw [len_list]; exact hjl) (by rw [at_list s j hjl]; exact M.cls_pDig _ d4)).symm
                          clear d4
                          go_wp2_with (first | (go_at_call 50; refine (rInner_any _ _).mono ?_; rintro e w' ⟨rfl, rfl⟩) | (go_at_call 51; refine (rDigit_any _ _).mono ?_; rintro e w' ⟨rfl, rfl⟩))
                          exact ⟨⟨j + 1, by omega, by omega, by go_num, HE.out⟩, by simp [intOf]; omega⟩
                        · have j4 := isC_false d4
                          have HE : Hid (M.ext M.pDig s.data.toList k = j) := by
                            unfold Hid; rw [← HX.out]; exact M.ext_no _ _ _ (by rw [len_list]; exact hjl) (by rw [at_list s j hjl]; exact decide_eq_false d4)
                          have HG : Hid (M.goB s.data.toList j = true) := by
                            unfold Hid; rw [M.goB_in _ _ (by rw [len_list]; exact hjl), at_list s j hjl]; exact hin
                          have HN : Hid (M.nxt (s.data.toList.drop k) = none) := by
                            unfold Hid; rw [HNX.out, HE.out, if_neg (fun h => by have := h.2; rw [HG.out] at this; cases this)]
                          have HR : Hid (M.lexF 0 s.data.toList = .error k) := hat.bad (by rw [len_list]; exact hlt) HN.out
                          clear d4
                          go_wp2_with (first | (go_at_call 50; refine (rInner_any _ _).mono ?_; rintro e w' ⟨rfl, rfl⟩) | (go_at_call 51; refine (rDigit_any _ _).mono ?_; rintro e w' ⟨rfl, rfl⟩))
                          refine bodyPost_ret (v := .tuple #[.slice none 0 0, .agg #[.int .i64 10, .int .i64 k]]) (by simp [results, Tryz.results29, go_sem, fc0, fc1]) rfl ⟨.slice none 0 0, ?_, ?_, ?_⟩
                          · rw [M.lex_of_error hl6 HR.out]
                          · rw [M.lex_of_error hl6 HR.out]
                            exact World.ownsRow_nil _ _ _ _
                          · exact ((((Below.refl _ _).alloc (Nat.le_refl _) _).trans (hbw.mono (Nat.le_succ _))).setCell (p := ⟨w.heap.size, 0, none⟩) (Nat.le_refl _) _).setCell (p := ⟨w.heap.size, 1, none⟩) (Nat.le_refl _) _
                    · have HE : Hid (M.ext M.pDig s.data.toList k = j) := by
                        unfold Hid; rw [← HX.out]; exact M.ext_end _ _ _ (by rw [len_list]; omega)
                      have HG : Hid (M.goB s.data.toList j = false) := M.goB_end _ _ (by rw [len_list]; omega)
                      by_cases h9 : j - k ≤ 9
                      · have HN : Hid (M.nxt (s.data.toList.drop k) = some (some 1, j - k)) := by
                          unfold Hid; rw [HNX.out, HE.out, if_pos ⟨h9, HG.out⟩]
                        have h9' : (j : Int) - k ≤ 9 := by omega
                        go_wp2_with (at_builtin; refine wpList_append_own _ rfl _ _ 60 rfl (w.heap.size + 1) 69 i0 (.agg #[.int .i64 0, .string ⟨#[]⟩, .int .i64 0]) 3 32 Tryz.underlying60 hi hz0 hz1 hz2 rfl (by decide) _ _ _ rfl (hown.alloc _) ⟨w'.heap.size, 0, none⟩ 1 1 [.int .i64 1, .string (s.extract k (j)), .int .i64 k] rfl rfl (cell_three_new _ _ _ _ _) (one3 _ _ _) q63 qb (base_le hbw _) ?_)
                        intro v' w3 hown3 hgrow _
                        go_wp2
                        exact ⟨LexRel.next (E := j) hat HN.out (by omega) hbw hown (Below.refl _ _) _ hown3 hgrow, by simp [intOf]; omega⟩
                      · have HN : Hid (M.nxt (s.data.toList.drop k) = none) := by
                          unfold Hid; rw [HNX.out, HE.out, if_neg (fun h => h9 h.1)]
                        have HR : Hid (M.lexF 0 s.data.toList = .error k) := hat.bad (by rw [len_list]; exact hlt) HN.out
                        have h9' : ¬ (j : Int) - k ≤ 9 := by omega
                        go_wp2_with (first | (go_at_call 50; refine (rInner_any _ _).mono ?_; rintro e w' ⟨rfl, rfl⟩) | (go_at_call 51; refine (rDigit_any _ _).mono ?_; rintro e w' ⟨rfl, rfl⟩))
                        refine bodyPost_ret (v := .tuple #[.slice none 0 0, .agg #[.int .i64 10, .int .i64 k]]) (by simp [results, Tryz.results29, go_sem, fc0, fc1]) rfl ⟨.slice none 0 0, ?_, ?_, ?_⟩
                        · rw [M.lex_of_error hl6 HR.out]
                        · rw [M.lex_of_error hl6 HR.out]
                          exact World.ownsRow_nil _ _ _ _
                        · exact ((((Below.refl _ _).alloc (Nat.le_refl _) _).trans (hbw.mono (Nat.le_succ _))).setCell (p := ⟨w.heap.size, 0, none⟩) (Nat.le_refl _) _).setCell (p := ⟨w.heap.size, 1, none⟩) (Nat.le_refl _) _
                · rw [if_neg k4] at hnx
                  have i4 := isC_false k4
                  have HN := hid hnx
                  clear hnx k1 k2 k3 k4 k5
                  have HR : Hid (M.lexF 0 s.data.toList = .error k) := hat.bad (by rw [len_list]; exact hlt) HN.out
                  go_wp2_with (first | (go_at_call 48; refine (rBlank_any _ _).mono ?_; rintro e w' ⟨rfl, rfl⟩) | (go_at_call 49; refine (rLetter_any _ _).mono ?_; rintro e w' ⟨rfl, rfl⟩) | (go_at_call 50; refine (rInner_any _ _).mono ?_; rintro e w' ⟨rfl, rfl⟩) | (go_at_call 51; refine (rDigit_any _ _).mono ?_; rintro e w' ⟨rfl, rfl⟩) | (go_at_call 52; refine (rSign_any _ _).mono ?_; rintro e w' ⟨rfl, rfl⟩))
                  refine bodyPost_ret (v := .tuple #[.slice none 0 0, .agg #[.int .i64 10, .int .i64 k]]) (by simp [results, Tryz.results29, go_sem, fc0, fc1]) rfl ⟨.slice none 0 0, ?_, ?_, ?_⟩
                  · rw [M.lex_of_error hl6 HR.out]
                  · rw [M.lex_of_error hl6 HR.out]
                    exact World.ownsRow_nil _ _ _ _
                  · exact ((((Below.refl _ _).alloc (Nat.le_refl _) _).trans (hbw.mono (Nat.le_succ _))).setCell (p := ⟨w.heap.size, 0, none⟩) (Nat.le_refl _) _).setCell (p := ⟨w.heap.size, 1, none⟩) (Nat.le_refl _) _
      · have HR : Hid (M.lexF 0 s.data.toList = .ok acc) := hat.done (by rw [len_list]; omega)
        go_wp2
        refine bodyPost_ret (v := .tuple #[u4, .agg #[.int .i64 0, .int .i64 0]]) (by simp [results, Tryz.results29, go_sem, fc0, fc1]) rfl ⟨u4, ?_, ?_, ?_⟩
        · rw [M.lex_of_ok hl6 HR.out]
        · rw [M.lex_of_ok hl6 HR.out]
          exact ownsRow_base (ownsRow_setCell_below (ownsRow_setCell_below hown (Nat.lt_succ_self _) _) (Nat.lt_succ_self _) _) (Nat.le_succ _)
        · exact ((((Below.refl _ _).alloc (Nat.le_refl _) _).trans (hbw.mono (Nat.le_succ _))).setCell (p := ⟨w.heap.size, 0, none⟩) (Nat.le_refl _) _).setCell (p := ⟨w.heap.size, 1, none⟩) (Nat.le_refl _) _
end Go.Proofs.YtkpmpnebmkeocaaGreatDoor
end
