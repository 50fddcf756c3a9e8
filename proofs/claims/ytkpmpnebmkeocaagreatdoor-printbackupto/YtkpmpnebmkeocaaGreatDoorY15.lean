/-
  The walk of the law PrintLines: a program's print has just one byte 10 for each function, at its end; no blank at an end of a line, nor two together. Conditions: what the program is in memory; that operands' numbers are some; that the table of powers lies as it should; a bound.
-/
import Derived.Test.YtkpmpnebmkeocaaGreatDoorY13
import Derived.Test.YtkpmpnebmkeocaaGreatDoorK2
set_option linter.unusedVariables false
set_option linter.unusedSimpArgs false
namespace Go.Proofs.YtkpmpnebmkeocaaGreatDoor
open Go.RowKit

/-- what is printed is the text of a program that may be -/
theorem pr_text {p : List M.Fn} (h : prB p = true) : M.rProg p ∧ (M.text p).length ≤ 65536 ∧ prT p = ⟨(M.text p).toArray⟩ := by
  by_cases hc : M.rProg p ∧ (M.text p).length ≤ 65536
  · refine ⟨hc.1, hc.2, ?_⟩
    unfold prT
    rw [M.printed_yes hc.1 hc.2]; rfl
  · unfold prB at h
    rw [M.printed_no hc] at h
    cases h
theorem pr_none {p : List M.Fn} (h : prB p = false) : prT p = ⟨#[]⟩ := by
  unfold prB at h
  unfold prT
  cases hp : M.printed p with
  | none => rfl
  | some b => rw [hp] at h; cases h
theorem size_list (s : ByteArray) : s.data.toList.length = s.size := by simp
theorem take_count {l : List UInt8} {j : Nat} (hj : j < l.length) : (l.take (j + 1)).count 10 = (l.take j).count 10 + if l[j] = 10 then 1 else 0 := by
  rw [List.take_succ_eq_append_getElem hj, List.count_append]
  simp [List.count_cons]
theorem u8_eq {c : UInt8} {n : Nat} (hn : n < 256) : c.toNat = n ↔ c = UInt8.ofNat n := by
  constructor
  · intro h; rw [← h]; simp
  · intro h; rw [h]; simp; omega
namespace PrintLines
set_option maxRecDepth 8000 in
set_option maxHeartbeats 4000000 in
theorem walk (w : World) (v : Value) (p : List M.Fn) (hv : ProgAt w NoX v p) (hN : ∀ f ∈ p, f.body.sz ≤ 4294967296) (hr : RngP p) (htab : TabW w) :
    Calls Tryz.prog 8 #[.agg #[v]] w fun e w' => e = .returned (.bool true) ∧ Below w.heap.size w w' := by
  obtain ⟨va, vc, rfl⟩ : ∃ a c, v = .slice a p.length c := by obtain ⟨_, h1, _⟩ := hv; exact SlAt.form h1
  have hb0 : Below w.heap.size w (w.alloc (.cells #[.slice va p.length vc] 24)) := (Below.refl _ w).alloc (Nat.le_refl _) _
  have hbx := heap_alloc_new w (.cells #[.slice va p.length vc] 24)
  have hv0 := hv.keep (Below.keepX hb0)
  have ht0 := htab.below hb0
  go_enter Tryz.func8, Tryz.ntmps8
  go_wp2_with (go_at_call 9; refine stopHere ?_)
  refine stopAt ?_
  generalize w.alloc (.cells #[.slice va p.length vc] 24) = W at hb0 hbx hv0 ht0
  refine (rbigP_any W _ p hv0 hN).mono ?_
  rintro e w1 ⟨⟨big, rfl⟩, hb1⟩
  have B1 := hb0.trans (hb1.mono hb0.size)
  have bx1 := kept hb1 hbx
  have hv1 := hv0.keep (Below.keepX hb1)
  have ht1 := ht0.below hb1
  have c1 := cell0 bx1
  cases big with
  | true =>
    go_wp2_with (go_at_call 10; refine stopHere ?_)
    refine stopAt ?_
    refine (fixed_any _ ht1).mono ?_
    rintro e w2 ⟨rfl, hb2⟩
    go_wp2_with fail
    go_ret
    exact ⟨rfl, B1.trans (hb2.mono B1.size)⟩
  | false =>
    go_wp2_with (go_at_call 11; refine stopHere ?_)
    refine stopAt ?_
    refine (pmay_any w1 _ p hv1 hr ht1).mono ?_
    rintro e w2 ⟨rfl, hb2⟩
    have B2 := B1.trans (hb2.mono B1.size)
    have bx2 := kept hb2 bx1
    have hv2 := hv1.keep (Below.keepX hb2)
    have ht2 := ht1.below hb2
    clear c1
    have c1 := cell0 bx2
    cases hpb : prB p with
    | false =>
      go_wp2_with (go_at_call 10; refine stopHere ?_)
      refine stopAt ?_
      refine (fixed_any _ ht2).mono ?_
      rintro e w3 ⟨rfl, hb3⟩
      go_wp2_with fail
      go_ret
      exact ⟨rfl, B2.trans (hb3.mono B2.size)⟩
    | true =>
      go_wp2_with (go_at_call 13; refine stopHere ?_)
      refine stopAt ?_
      refine (pprogram_any w2 _ p hv2 hr ht2).mono ?_
      rintro e w3 ⟨rfl, hb3⟩
      obtain ⟨hrp, hlen, hT⟩ := pr_text hpb
      have B3 := B2.trans (hb3.mono B2.size)
      have bx3 := kept hb3 bx2
      have ht3 := ht2.below hb3
      clear c1
      have c1 := cell0 bx3
      have HL : Hid ((prT p).data.toList = M.text p) := by unfold Hid; rw [hT]
      have hsz : (prT p).size ≤ 65536 := by rw [← size_list, HL.out]; exact hlen
      have HG : Hid (M.Gap (M.text p)) := M.text_gap hrp
      have HC : Hid ((M.text p).count 10 = p.length) := M.text_count hrp
      clear hT hlen hpb
      generalize prT p = T at HL hsz
      go_wp2_with fail
      go_loopw [4, 5] (fun n i wr => wr = w3 ∧ ∃ (j c : Nat), i = .int .i64 j ∧ j ≤ T.size ∧ n = .int .i64 c ∧ c ≤ j ∧ Hid (c = (T.data.toList.take j).count 10)) (fun _ i _ => T.size - (intOf i).toNat)
      case atStart => exact ⟨rfl, 0, 0, rfl, Nat.zero_le _, rfl, Nat.le_refl _, by simp [Hid]⟩
      case round =>
        obtain ⟨rfl, j, c, rfl, hj, rfl, hcj, HCt⟩ := hrel
        by_cases hjl : j < T.size
        · have hji : (j : Int) < (T.size : Int) := by omega
          have hll : j < T.data.toList.length := by rw [size_list]; exact hjl
          have HT : Hid ((T.data.toList.take (j + 1)).count 10 = (T.data.toList.take j).count 10 + if T[j] = 10 then 1 else 0) := take_count hll
          have hat : T.data.toList[j] = T[j] := rfl
          have HX : Hid (T[j] = 32 → ∀ (h : j + 1 < T.size), T[j + 1].toNat ≠ 32 ∧ T[j + 1].toNat ≠ 10) := by
            intro h32 h
            have hg := M.gap_at (M.text p) j (T[j + 1]) HG.out (by rw [← HL.out, List.getElem?_eq_getElem hll, hat, h32]) (by rw [← HL.out, List.getElem?_eq_getElem (by rw [size_list]; exact h)]; rfl)
            exact ⟨fun e => hg.1 ((u8_eq (by decide)).1 e), fun e => hg.2 ((u8_eq (by decide)).1 e)⟩
          have h10 : T[j].toNat = 10 ↔ T[j] = 10 := u8_eq (by decide)
          have h32 : T[j].toNat = 32 ↔ T[j] = 32 := u8_eq (by decide)
          clear hat
          by_cases e32 : T[j].toNat = 32
          · have n10 : ¬ T[j].toNat = 10 := by omega
            have b32 : ((T[j].toNat : Int) == 32) = true := by simp [e32]
            have b10 : ((T[j].toNat : Int) == 10) = false := by simp; omega
            have HT2 : Hid (c = (T.data.toList.take (j + 1)).count 10) := by unfold Hid; rw [HT.out, if_neg (fun e => n10 (h10.2 e))]; exact HCt.out
            by_cases hj1 : j + 1 < T.size
            · have hji1 : (j : Int) + 1 < (T.size : Int) := by omega
              obtain ⟨a32, a10⟩ := HX.out (h32.1 e32) hj1
              have q32 : ((T[j + 1].toNat : Int) == 32) = false := by simp; omega
              have q10 : ((T[j + 1].toNat : Int) == 10) = false := by simp; omega
              clear h10 h32 e32 n10
              go_wp2_with fail
              exact ⟨⟨trivial, j + 1, c, by go_num, by omega, rfl, by omega, HT2⟩, by simp [intOf]; omega⟩
            · have hji1 : ¬ (j : Int) + 1 < (T.size : Int) := by omega
              clear h10 h32 e32 n10
              go_wp2_with fail
              exact ⟨⟨trivial, j + 1, c, by go_num, by omega, rfl, by omega, HT2⟩, by simp [intOf]; omega⟩
          · have b32 : ((T[j].toNat : Int) == 32) = false := by simp; omega
            by_cases e10 : T[j].toNat = 10
            · have b10 : ((T[j].toNat : Int) == 10) = true := by simp [e10]
              have HT2 : Hid (c + 1 = (T.data.toList.take (j + 1)).count 10) := by unfold Hid; rw [HT.out, if_pos (h10.1 e10)]; rw [← HCt.out]
              clear h10 h32 e32 e10
              go_wp2_with fail
              exact ⟨⟨trivial, j + 1, c + 1, by go_num, by omega, by go_num, by omega, HT2⟩, by simp [intOf]; omega⟩
            · have b10 : ((T[j].toNat : Int) == 10) = false := by simp; omega
              have HT2 : Hid (c = (T.data.toList.take (j + 1)).count 10) := by unfold Hid; rw [HT.out, if_neg (fun e => e10 (h10.2 e))]; exact HCt.out
              clear h10 h32 e32 e10
              go_wp2_with fail
              exact ⟨⟨trivial, j + 1, c, by go_num, by omega, rfl, by omega, HT2⟩, by simp [intOf]; omega⟩
        · have hjn : ¬ (j : Int) < (T.size : Int) := by omega
          have hc : c = p.length := by
            rw [HCt.out, List.take_of_length_le (by rw [size_list]; omega), HL.out]; exact HC.out
          clear HCt hcj
          subst hc
          go_wp2_with (go_at_call 10; refine stopHere ?_)
          refine stopAt ?_
          refine (fixed_any _ ht3).mono ?_
          rintro e w4 ⟨rfl, hb4⟩
          have B4 := B3.trans (hb4.mono B3.size)
          have c4 := cell0 (kept hb4 bx3)
          clear c1
          by_cases hp0 : p = []
          · subst hp0
            have hT0 : T = ⟨#[]⟩ := M.bytes_ext (by rw [HL.out]; rfl)
            subst hT0
            go_wp2_with fail
            go_ret
            exact ⟨rfl, B4⟩
          · have hpl : 0 < p.length := List.length_pos_iff.2 hp0
            obtain ⟨m, hm⟩ := M.text_last hp0
            have hTm : T.data.toList = m ++ [10] := by rw [HL.out, hm]
            have hTs : T.size = m.length + 1 := by rw [← size_list, hTm]; simp
            have hne : ¬ T = ⟨#[]⟩ := fun e => by rw [e] at hTs; cases hTs
            have hpos : 0 < T.size := by omega
            have hlt1 : T.size - 1 < T.size := by omega
            have hlast : (T[T.size - 1]'hlt1).toNat = 10 := by
              have h1 : T.data.toList[T.size - 1]'(by rw [size_list]; omega) = 10 := by
                have h2 : (T.data.toList)[T.size - 1]? = some 10 := by rw [hTm, hTs]; simp
                exact (List.getElem?_eq_some_iff.1 h2).2
              have h3 : T[T.size - 1]'hlt1 = 10 := h1
              rw [h3]; rfl
            have hb1' : ((p.length : Int) == 0) = false := by simp; omega
            have hst : (T.toList == (⟨#[]⟩ : ByteArray).toList) = false := by rw [beq_list]; exact decide_eq_false hne
            have hie : T.toList.isEmpty = false := by rw [ByteArray.toList_eq, hTm]; simp
            have HS := hid hTs
            clear hm hTm hTs hne hp0
            go_wp2_with fail
            go_ret
            exact ⟨rfl, B4⟩
end PrintLines
end Go.Proofs.YtkpmpnebmkeocaaGreatDoor
