/-
  The walks of the document's Right, Keyword and Name (proteanref01, proteanref02): what tokens may be, which texts are keywords and names. Conditions: a text's length.
-/
import Derived.Test.YtkonkdhoakcmdaaGreatDoorLI
import Derived.Test.YtkonkdhoakcmdaaGreatDoorMM
set_option linter.unusedVariables false
namespace Go.Proofs.YtkonkdhoakcmdaaGreatDoor
open Go.RowKit

theorem tw_all (p : UInt8 → Bool) : ∀ l : List UInt8, (∀ i (h : i < l.length), p l[i] = true) → (l.takeWhile p).length = l.length
  | [], _ => rfl
  | c :: r, h => by
    have h0 : p c = true := h 0 (by simp)
    rw [List.takeWhile_cons_of_pos h0, List.length_cons, List.length_cons, tw_all p r fun i hi => h (i + 1) (Nat.succ_lt_succ hi)]
theorem tw_ne (p : UInt8 → Bool) : ∀ (l : List UInt8) (i : Nat) (h : i < l.length), p l[i] = false → (l.takeWhile p).length ≠ l.length
  | [], i, h, _ => by simp at h
  | c :: r, 0, h, hp => by
    have h0 : p c = false := hp
    rw [List.takeWhile_cons_of_neg (by simp [h0])]; simp
  | c :: r, i + 1, h, hp => by
    cases hc : p c
    · rw [List.takeWhile_cons_of_neg (by simp [hc])]; simp
    · rw [List.takeWhile_cons_of_pos hc, List.length_cons, List.length_cons]
      have := tw_ne p r i (Nat.lt_of_succ_lt_succ h) hp
      omega
/-- may that byte stand in a token of that kind? -/
def okc (k : Int) (b : UInt8) : Bool := if k = 0 then M.pInn b else if k = 1 then isC 4 b else if k = 2 then isC 5 b else true

theorem may1_bad (x : M.Tok) (j : Nat) (h : j < x.t.size) (hb : okc x.k x.t[j] = false) : M.may1 x = false := by
  have hl : j < x.t.data.toList.length := by simpa using h
  have he : x.t.data.toList[j] = x.t[j] := rfl
  unfold okc at hb
  unfold M.may1
  split at hb
  · rename_i hk
    rw [if_pos hk]
    have := tw_ne M.pInn _ j hl (by rw [he]; exact hb)
    rw [len_list] at this
    simp [M.wordB, M.ext, this]
  · rename_i hk
    rw [if_neg hk]
    split at hb
    · rename_i hk1
      rw [if_pos hk1]
      have := tw_ne M.pDig _ j hl (by rw [he]; exact hb)
      rw [len_list] at this
      simp [M.numB, M.ext, this]
    · rename_i hk1
      rw [if_neg hk1]
      split at hb
      · rename_i hk2
        rw [if_pos hk2]
        by_cases h1 : x.t.size = 1
        · have hj : j = 0 := by omega
          subst hj
          have : M.begB x.t.data.toList 5 = false := by
            unfold M.begB
            rw [List.head?_eq_getElem?, List.getElem?_eq_getElem hl, he]
            simpa [isC] using hb
          rw [this]; simp
        · simp [h1]
      · cases hb
theorem may1_end (x : M.Tok) (h1 : 1 ≤ x.t.size) (h2 : x.t.size ≤ 65536) (hb : ∀ j (h : j < x.t.size), okc x.k x.t[j] = true) :
    (x.k = 0 → M.may1 x = isC 3 (x.t[0]'(by omega))) ∧ (x.k = 1 → M.may1 x = decide ((x.t.size : Int) ≤ 9)) ∧ (x.k = 2 → M.may1 x = ((x.t.size : Int) == 1)) ∧ (¬ x.k = 0 → ¬ x.k = 1 → ¬ x.k = 2 → M.may1 x = false) := by
  have hl : 0 < x.t.data.toList.length := by simp; omega
  have he : x.t.data.toList[0] = x.t[0] := rfl
  have hbg : ∀ k, M.begB x.t.data.toList k = isC k x.t[0] := by
    intro k
    unfold M.begB
    rw [List.head?_eq_getElem?, List.getElem?_eq_getElem hl, he, Bool.eq_iff_iff]
    simp [isC]
  refine ⟨fun hk => ?_, fun hk => ?_, fun hk => ?_, fun k0 k1 k2 => ?_⟩
  · unfold M.may1
    rw [if_pos hk]
    have hz : (x.t.data.toList.takeWhile M.pInn).length = x.t.data.toList.length := tw_all _ _ fun i hi => by
      have := hb i (by simpa using hi)
      unfold okc at this
      rw [if_pos hk] at this
      exact this
    unfold M.wordB
    rw [hbg, M.ext, List.drop_zero, hz, len_list]
    simp [h2]
  · unfold M.may1
    rw [if_neg (by omega), if_pos hk]
    have hz : (x.t.data.toList.takeWhile M.pDig).length = x.t.data.toList.length := tw_all _ _ fun i hi => by
      have := hb i (by simpa using hi)
      unfold okc at this
      rw [if_neg (by omega), if_pos hk] at this
      exact this
    unfold M.numB
    rw [M.ext, List.drop_zero, hz, len_list, Bool.eq_iff_iff]
    have : ¬ x.t.data = #[] := by intro e; have : x.t.size = 0 := by show x.t.data.size = 0; rw [e]; rfl
                                  omega
    simp [this]
    omega
  · unfold M.may1
    rw [if_neg (by omega), if_neg (by omega), if_pos hk, hbg]
    have := hb 0 (by omega)
    unfold okc at this
    rw [if_neg (by omega), if_neg (by omega), if_pos hk] at this
    rw [this, Bool.eq_iff_iff]
    simp
    omega
  · unfold M.may1
    rw [if_neg k0, if_neg k1, if_neg k2]

theorem not_b {a : Bool} (h : a = true) : (!a) = false := by rw [h]; rfl
theorem not_b' {a : Bool} (h : a = false) : (!a) = true := by rw [h]; rfl
theorem below_box {w : World} (o : Obj) : Below w.heap.size w (w.alloc o) := (Below.refl _ _).alloc (Nat.le_refl _) _

set_option maxRecDepth 4000 in
set_option maxHeartbeats 1600000 in
theorem right_any (x : M.Tok) (w : World) (hs : x.t.size ≤ maxLen) :
    Calls Tryz.prog 55 #[.agg #[.int .i64 x.k, .string x.t, .int .i64 x.p]] w fun e w' => e = .returned (.bool (M.may1 x)) ∧ Below w.heap.size w w' := by
  unfold maxLen at hs
  obtain ⟨k, t, p⟩ := x
  simp only at hs ⊢
  by_cases h1 : t.size < 1
  · go_enter Tryz.func55, Tryz.ntmps55
    go_wp2
    go_ret
    refine ⟨ret_bool ?_, below_box _⟩
    have : t = ⟨#[]⟩ := M.bytes_ext (List.eq_nil_of_length_eq_zero (by rw [len_list]; omega))
    subst this
    unfold M.may1
    simp [M.wordB, M.numB, M.begB]
  · by_cases h2 : 65536 < t.size
    · go_enter Tryz.func55, Tryz.ntmps55
      go_wp2
      go_ret
      refine ⟨ret_bool ?_, below_box _⟩
      unfold M.may1
      have hl := len_list t
      simp only [M.wordB, M.numB, hl]
      rw [decide_eq_false (by omega), decide_eq_false (by omega)]
      have : (t.size == 1) = false := by rw [beq_eq_false_iff_ne]; omega
      simp [this]
    · have HE := hid (may1_end ⟨k, t, p⟩ (by simp only; omega) (by simp only; omega))
      have HB := hid (may1_bad ⟨k, t, p⟩)
      go_enter Tryz.func55, Tryz.ntmps55
      go_wp2
      go_loop [3, 4] (fun i c => ∃ j : Nat, j ≤ t.size ∧ i = .int .i64 j ∧ Hid (∀ i (h : i < t.size), i < j → okc k t[i] = true)) (fun i _ => t.size - (intOf i).toNat)
      case atStart => exact ⟨0, Nat.zero_le _, rfl, fun i _ h => by omega⟩
      case round =>
        obtain ⟨j, hj, rfl, HN⟩ := hrel
        by_cases hlt : j < t.size
        · cases hc : okc k t[j]
          · have HF := hid (HB.out j hlt hc)
            unfold okc at hc
            split at hc
            · rename_i k0; subst k0
              go_wp2_with (go_at_call 43; refine (rInner_any _ _).mono ?_; rintro e w' ⟨rfl, rfl⟩)
              go_ret
              exact ⟨ret_bool HF.out.symm, below_box _⟩
            · split at hc
              · rename_i k0; subst k0
                go_wp2_with (go_at_call 44; refine (rDigit_any _ _).mono ?_; rintro e w' ⟨rfl, rfl⟩)
                go_ret
                exact ⟨ret_bool HF.out.symm, below_box _⟩
              · split at hc
                · rename_i k0; subst k0
                  go_wp2_with (go_at_call 45; refine (rSign_any _ _).mono ?_; rintro e w' ⟨rfl, rfl⟩)
                  go_ret
                  exact ⟨ret_bool HF.out.symm, below_box _⟩
                · cases hc
          · have HN2 : Hid (∀ i (h : i < t.size), i < j + 1 → okc k t[i] = true) := fun i h hi => by
              by_cases e : i = j
              · subst e; exact hc
              · exact HN.out i h (by omega)
            clear HN
            unfold okc at hc
            split at hc
            · rename_i k0; subst k0
              go_wp2_with (go_at_call 43; refine (rInner_any _ _).mono ?_; rintro e w' ⟨rfl, rfl⟩)
              exact ⟨⟨j + 1, by omega, by go_num, HN2⟩, by simp [intOf]; omega⟩
            · split at hc
              · rename_i k0; subst k0
                go_wp2_with (go_at_call 44; refine (rDigit_any _ _).mono ?_; rintro e w' ⟨rfl, rfl⟩)
                exact ⟨⟨j + 1, by omega, by go_num, HN2⟩, by simp [intOf]; omega⟩
              · split at hc
                · rename_i k0; subst k0
                  go_wp2_with (go_at_call 45; refine (rSign_any _ _).mono ?_; rintro e w' ⟨rfl, rfl⟩)
                  exact ⟨⟨j + 1, by omega, by go_num, HN2⟩, by simp [intOf]; omega⟩
                · go_wp2
                  exact ⟨⟨j + 1, by omega, by go_num, HN2⟩, by simp [intOf]; omega⟩
        · obtain ⟨e0, e1, e2, e3⟩ := HE.out fun i h => HN.out i h (Nat.lt_of_lt_of_le h (Nat.le_of_not_lt hlt))
          by_cases k0 : k = 0
          · subst k0
            have HF := hid (e0 rfl)
            clear e0 e1 e2 e3
            go_wp2_with (go_at_call 42; refine (rLetter_any _ _).mono ?_; rintro e w' ⟨rfl, rfl⟩)
            go_ret
            exact ⟨ret_bool HF.out.symm, below_box _⟩
          · by_cases k1 : k = 1
            · subst k1
              have HF := hid (e1 rfl)
              clear e0 e1 e2 e3
              go_wp2
              go_ret
              exact ⟨ret_bool HF.out.symm, below_box _⟩
            · by_cases k2 : k = 2
              · subst k2
                have HF := hid (e2 rfl)
                clear e0 e1 e2 e3
                go_wp2
                go_ret
                exact ⟨ret_bool HF.out.symm, below_box _⟩
              · have HF := hid (e3 k0 k1 k2)
                clear e0 e1 e2 e3
                go_wp2
                go_ret
                exact ⟨ret_bool HF.out.symm, below_box _⟩

/-- the keywords, as a list -/
def kws : List ByteArray := [M.kFun, M.kOut, M.kReturn, M.kIf, M.kElse, M.kWhile, M.kNew, M.kProto, M.kCall, M.kIn, M.kNull, M.kTrue, M.kFalse]
theorem kw_true (s : ByteArray) (j : Nat) (h : j < 13) (he : kws[j]'h = s) : M.kw s = true := by
  have hm : s ∈ kws := he ▸ List.getElem_mem h
  simp only [kws, List.mem_cons, List.not_mem_nil, or_false] at hm
  exact decide_eq_true hm
theorem kw_false (s : ByteArray) (hn : ∀ j (h : j < 13), ¬ kws[j]'h = s) : M.kw s = false := by
  refine decide_eq_false fun h => ?_
  have hm : s ∈ kws := by simpa only [kws, List.mem_cons, List.not_mem_nil, or_false] using h
  obtain ⟨j, hj, e⟩ := List.getElem_of_mem hm
  exact hn j hj e
theorem kws_cells {w : World} {g : Nat} {T : TypeId} (h : w.heap[g]? = some (.cells (kws.map Value.string).toArray T)) : ∀ j (hj : j < 13), w.cell? ⟨g, j, none⟩ = some (.string (kws[j]'hj)) := by
  intro j hj
  rw [Lib.cell_of_heap h]
  simp only [List.getElem?_toArray, List.getElem?_map]
  rw [List.getElem?_eq_getElem (l := kws) hj]; rfl

set_option maxRecDepth 4000 in
set_option maxHeartbeats 1600000 in
theorem rKeyword_any (s : ByteArray) (w : World) :
    Calls Tryz.prog 13 #[.string s] w fun e w' => e = .returned (.bool (M.kw s)) ∧ Below w.heap.size w w' := by
  have hcell := kws_cells (heap_alloc_new w (.cells (kws.map Value.string).toArray 9))
  have hcell' : ∀ j (hj : j < 13), (w.alloc (.cells #[.string ⟨#[102, 117, 110]⟩, .string ⟨#[111, 117, 116]⟩, .string ⟨#[114, 101, 116, 117, 114, 110]⟩, .string ⟨#[105, 102]⟩, .string ⟨#[101, 108, 115, 101]⟩, .string ⟨#[119, 104, 105, 108, 101]⟩, .string ⟨#[110, 101, 119]⟩, .string ⟨#[112, 114, 111, 116, 111]⟩, .string ⟨#[99, 97, 108, 108]⟩, .string ⟨#[105, 110]⟩, .string ⟨#[110, 117, 108, 108]⟩, .string ⟨#[116, 114, 117, 101]⟩, .string ⟨#[102, 97, 108, 115, 101]⟩] 9)).cell? ⟨w.heap.size, j, none⟩ = some (.string (kws[j]'hj)) := hcell
  clear hcell
  go_enter Tryz.func13, Tryz.ntmps13
  go_wp2
  go_loop [4] (fun i => ∃ j : Nat, j ≤ 13 ∧ i = .int .i64 j ∧ Hid (∀ i (h : i < 13), i < j → ¬ kws[i]'h = s)) (fun i => 13 - (intOf i).toNat)
  case atStart => exact ⟨0, by omega, rfl, fun i _ h => by omega⟩
  case round =>
    obtain ⟨j, hj, rfl, HN⟩ := hrel
    by_cases hlt : j < 13
    · have hc := hcell' j hlt
      have hji : (j : Int) < 13 := by omega
      by_cases he : kws[j]'hlt = s
      · have HE := hid he
        have hb : (((kws[j]'hlt).toList == s.toList)) = true := by rw [he]; simp
        clear he
        clear hcell'
        go_wp2
        go_ret
        exact ⟨ret_bool (kw_true s j hlt HE.out).symm, below_box _⟩
      · have HE := hid he
        have hb : (((kws[j]'hlt).toList == s.toList)) = false := by rw [beq_eq_false_iff_ne]; exact fun h => he (toList_inj.1 h)
        clear he
        clear hcell'
        go_wp2
        refine ⟨⟨j + 1, by omega, by go_num, fun i h hi => ?_⟩, by simp [intOf]; omega⟩
        by_cases e : i = j
        · subst e; exact HE.out
        · exact HN.out i h (by omega)
    · clear hcell'
      go_wp2
      go_ret
      exact ⟨ret_bool (kw_false s fun i h => HN.out i h (by omega)).symm, below_box _⟩
end Go.Proofs.YtkonkdhoakcmdaaGreatDoor
