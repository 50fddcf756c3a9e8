/-
  The walks of the document's Digits, Signed and Text of atoms. Conditions: lists of at most 100000 atoms whose numbers fit.
-/
import Derived.Test.YtbaaeobdjiglgaaGreatGI
set_option linter.unusedVariables false
set_option linter.unusedSimpArgs false
namespace Go.Proofs.YtbaaeobdjiglgaaGreat
open Go.RowKit Go.Sort

def digS : ByteArray := ⟨#[48, 49, 50, 51, 52, 53, 54, 55, 56, 57]⟩
theorem piece_fin : ∀ i : Fin 10, (digS.extract i.val (i.val + 1)).data.toList = [UInt8.ofNat (48 + i.val)] := by decide +kernel
theorem piece {d : Nat} (h : d < 10) : digS.extract d (d + 1) = bs [UInt8.ofNat (48 + d)] := bs_of (piece_fin ⟨d, h⟩)
theorem digits_small {u : Nat} (h : u < 10) : Lib.decDigits u = [UInt8.ofNat (48 + u)] := Lib.decDigits_one h
theorem digits_big {u : Nat} (h : ¬ u < 10) : Lib.decDigits u = Lib.decDigits (u / 10) ++ [UInt8.ofNat (48 + u % 10)] := by rw [Lib.decDigits, dif_neg h]

set_option maxHeartbeats 1000000 in
theorem digits_any (u : Nat) (w : World) (hu : u < 18446744073709551616) :
    Calls Tryz.prog 88 #[.int .u64 u] w fun e w' => e = .returned (.string (bs (Lib.decDigits u))) ∧ w' = w := by
  go_enter Tryz.func88, Tryz.ntmps88
  go_wp2
  go_loop [0, 3] (fun a s => ∃ (n : Nat) (t : ByteArray), a = .int .u64 n ∧ s = .string t ∧ n < 18446744073709551616 ∧ t.size + Lib.nDigits n ≤ 20 ∧ Hid (Lib.decDigits u = Lib.decDigits n ++ t.data.toList)) (fun a _ => (intOf a).toNat)
  case atStart =>
    refine ⟨u, ⟨#[]⟩, rfl, rfl, hu, ?_, ?_⟩
    · have := M.nDigits_le 20 u (by omega) (by omega)
      show 0 + _ ≤ _
      omega
    · show _ = _
      simp
  case round =>
    obtain ⟨n, t, rfl, rfl, hn, hts, hI⟩ := hrel
    by_cases hbig : 10 ≤ n
    · obtain ⟨d, hd⟩ : ∃ d, n % 10 = d := ⟨_, rfl⟩
      have hd10 : d < 10 := by omega
      have hmod : (n : Int) % 10 = (d : Int) := by omega
      have hnd : Lib.nDigits n = Lib.nDigits (n / 10) + 1 := Lib.nDigits_big (by omega)
      have HND := hid hnd
      clear hnd
      go_wp2
      have hp := piece hd10
      unfold digS at hp
      rw [hp]
      refine ⟨⟨n / 10, _, by congr 1, rfl, by omega, ?_, ?_⟩, by simp [intOf]; omega⟩
      · rw [ByteArray.size_append, bs_size]
        have := HND.out
        simp only [List.length_cons, List.length_nil]
        omega
      · show _ = _
        rw [hI.out, digits_big (u := n) (by omega), hd]
        simp [bs_list]
    · go_wp2
      go_ret
      have hp := piece (d := n) (by omega)
      unfold digS at hp
      refine ⟨ret_string (bs_of ?_), rfl⟩
      rw [hp, hI.out, digits_small (u := n) (by omega)]
      simp [bs_list]

set_option maxHeartbeats 1000000 in
theorem signed_any (n : Int) (w : World) (hr : InR n) :
    Calls Tryz.prog 69 #[.int .i64 n] w fun e w' => e = .returned (.string (bs (Lib.itoa n))) ∧ w' = w := by
  have hr1 := hr.1
  have hr2 := hr.2
  by_cases hneg : n < 0
  · obtain ⟨m, hm⟩ : ∃ m : Nat, n = -(m : Int) := ⟨n.natAbs, by omega⟩
    subst hm
    have hm1 : 1 ≤ m := by omega
    have w1 : IntKind.i64.wrap (-(m : Int) + 1) = -(m : Int) + 1 := by rw [IntKind.wrap_i64]; omega
    have K1 := hid (digits_any m w (by omega))
    obtain ⟨t, ht⟩ : ∃ t, bs (Lib.decDigits m) = t := ⟨_, rfl⟩
    have hts : t.size ≤ 20 := by rw [← ht, bs_size, Lib.decDigits_length]; exact M.nDigits_le 20 m (by omega) (by omega)
    have HT : Hid (t.data.toList = Lib.decDigits m) := by unfold Hid; rw [← ht, bs_list]
    rw [ht] at K1
    have hit : Hid (Lib.itoa (-(m : Int)) = 45 :: Lib.decDigits m) := by
      unfold Hid Lib.itoa
      rw [if_pos hneg]
      congr 1
      congr 1
      omega
    clear ht hr
    go_enter Tryz.func69, Tryz.ntmps69
    go_wp2_with (go_at_call 88; refine stopHere ?_)
    refine stopAt ?_
    have e1 : ∀ z : Int, z = (m : Int) → Calls Tryz.prog 88 #[.int .u64 z] w fun e w' => e = .returned (.string t) ∧ w' = w := fun z hz => by rw [hz]; exact K1.out
    refine (e1 _ ?_).mono ?_
    · omega
    rintro e w' ⟨rfl, rfl⟩
    go_wp2
    go_ret
    exact ⟨ret_string (bs_of (by rw [hit.out]; simp [HT.out])), rfl⟩
  · obtain ⟨m, rfl⟩ : ∃ m : Nat, n = (m : Int) := ⟨n.toNat, by omega⟩
    have K1 := hid (digits_any m w (by omega))
    have hit : Hid (Lib.itoa (m : Int) = Lib.decDigits m) := by
      unfold Hid Lib.itoa
      rw [if_neg hneg]
      congr 1
    obtain ⟨t, ht⟩ : ∃ t, bs (Lib.decDigits m) = t := ⟨_, rfl⟩
    rw [ht] at K1
    have HT := hid ht
    clear ht hr
    go_enter Tryz.func69, Tryz.ntmps69
    go_wp2_with (go_at_call 88; refine stopHere ?_)
    refine stopAt ?_
    refine K1.out.mono ?_
    rintro e w' ⟨rfl, rfl⟩
    go_wp2
    go_ret
    exact ⟨ret_string (by rw [hit.out, HT.out]), rfl⟩

/-- the words that the document's Text begins with -/
def nmS : Array Value := #[.string ⟨#[110, 117, 108, 108]⟩, .string ⟨#[98, 111, 111, 108]⟩, .string ⟨#[110, 117, 109]⟩, .string ⟨#[102, 117, 110]⟩, .string ⟨#[114, 101, 99]⟩, .string ⟨#[115, 117, 109]⟩, .string ⟨#[97, 110, 121]⟩]
theorem nm_cells (w : World) (t : TypeId) : ∀ i (h : i < 7), (w.alloc (.cells nmS t)).cell? ⟨w.heap.size, i, none⟩ = some (nmS[i]'h) := by
  intro i hi
  have hn := heap_alloc_new w (.cells nmS t)
  rw [Lib.cell_of_heap hn]
  show nmS[i]? = _
  rw [Array.getElem?_eq_getElem hi]

set_option maxHeartbeats 4000000 in
set_option maxRecDepth 100000 in
theorem rtext_any (w : World) (v : Value) (l : List M.Atm) (h : AtAt w v l) (hn : l.length ≤ 100000) :
    Calls Tryz.prog 50 #[v] w fun e w' => e = .returned (.string (bs (M.textB l))) ∧ Below w.heap.size w w' := by
  obtain ⟨r1, a1, cp, rfl, g1⟩ := h
  have HC1 : Hid (l ≠ [] → ∃ b o, a1 = some ⟨b, o, none⟩ ∧ b < w.heap.size ∧ ∀ i (h : i < l.length), w.cell? ⟨b, o + i * 2, none⟩ = some (.int .i64 l[i].k) ∧ w.cell? ⟨b, o + i * 2 + 1, none⟩ = some (.int .i64 l[i].n)) := by
    intro hne
    rcases g1 with h | ⟨b, o, h1, h2, _, h3⟩
    · exact absurd h hne
    · exact ⟨b, o, h1, h2, h3⟩
  have R1 := hid r1
  clear g1 r1
  have NM := hid (nm_cells w 9)
  have BW := hid ((Below.refl w.heap.size w).alloc (Nat.le_refl _) (.cells nmS 9))
  go_enter Tryz.func50, Tryz.ntmps50
  go_wp2_with fail
  obtain ⟨w1, hw1⟩ : ∃ w1, w.alloc (.cells nmS 9) = w1 := ⟨_, rfl⟩
  have hw2 := hw1
  unfold nmS at hw1
  rw [hw1]
  rw [hw2] at NM BW
  clear hw1 hw2
  go_loop [5, 4] (fun i s => ∃ (j : Nat) (t : ByteArray), j ≤ l.length ∧ i = .int .i64 j ∧ s = .string t ∧ t.size ≤ 2500000 ∧ Hid (t.data.toList = M.textB (l.take j))) (fun i _ => l.length - (intOf i).toNat)
  case atStart => exact ⟨0, ⟨#[]⟩, Nat.zero_le _, rfl, rfl, by decide, rfl⟩
  case round =>
    obtain ⟨j, t, hj, rfl, rfl, htz, hI⟩ := hrel
    by_cases hjl : j < l.length
    · obtain ⟨b, o, rfl, hlt, hc⟩ := HC1.out (by intro e; rw [e] at hjl; simp at hjl)
      obtain ⟨c1, c2⟩ := hc j hjl
      rw [← BW.out.cell (p := ⟨b, o + j * 2, none⟩) hlt] at c1
      rw [← BW.out.cell (p := ⟨b, o + j * 2 + 1, none⟩) hlt] at c2
      have HR := hid (R1.out _ (List.getElem_mem hjl))
      obtain ⟨x, hx⟩ : ∃ x, l[j] = x := ⟨_, rfl⟩
      rw [hx] at c1 c2 HR
      have HX := hid hx
      have hnext : Hid ((M.textB (l.take (j + 1))).length ≤ 2500000) := by
        have := M.text_le (l := l.take (j + 1)) (fun y hy => R1.out y (List.mem_of_mem_take hy))
        have h2 : (l.take (j + 1)).length ≤ 100000 := by rw [List.length_take]; omega
        unfold Hid; omega
      clear hx hc
      obtain ⟨k, n⟩ := x
      obtain ⟨st, hst⟩ : ∃ st, bs (Lib.itoa n) = st := ⟨_, rfl⟩
      have hsz : st.size ≤ 21 := by rw [← hst, bs_size]; exact M.itoa_le HR.out.1 HR.out.2
      have HST : Hid (st.data.toList = Lib.itoa n) := by unfold Hid; rw [← hst, bs_list]
      have K1 := fun W => signed_any n W HR.out
      rw [hst] at K1
      have HK1 := hid K1
      clear K1 hst
      simp only at c1 c2
      by_cases k0 : k = 0
      · subst k0
        rcases Nat.eq_zero_or_pos j with rfl | hj0
        · have hs := hid (M.text_first hjl)
          rw [HX.out] at hs
          have ht0 : t = ⟨#[]⟩ := M.bytes_ext hI.out
          subst ht0
          simp only [Nat.zero_mul, Nat.add_zero] at c1 c2
          have m := NM.out 0 (by omega)
          simp [nmS] at m
          go_wp2
          refine ⟨⟨0 + 1, _, by omega, by go_num, rfl, ?_, ?_⟩, by simp [intOf]; omega⟩
          · rw [← len_list]; refine Nat.le_trans (Nat.le_of_eq ?_) hnext.out; rw [hs.out]; simp [M.wordB]
          · show _ = _
            rw [hs.out]; simp [M.wordB]
        · have hs := hid (M.text_step hjl hj0)
          rw [HX.out] at hs
          have hpos2 : (0 : Int) < (j : Int) := by omega
          have m := NM.out 0 (by omega)
          simp [nmS] at m
          go_wp2
          refine ⟨⟨j + 1, _, by omega, by go_num, rfl, ?_, ?_⟩, by simp [intOf]; omega⟩
          · rw [← len_list]; refine Nat.le_trans (Nat.le_of_eq ?_) hnext.out; rw [hs.out]; simp [hI.out, M.wordB]
          · show _ = _
            rw [hs.out]; simp [hI.out, M.wordB]
      by_cases k1 : k = 1
      · subst k1
        rcases Nat.eq_zero_or_pos j with rfl | hj0
        · have hs := hid (M.text_first hjl)
          rw [HX.out] at hs
          have ht0 : t = ⟨#[]⟩ := M.bytes_ext hI.out
          subst ht0
          simp only [Nat.zero_mul, Nat.add_zero] at c1 c2
          have m := NM.out 1 (by omega)
          simp [nmS] at m
          go_wp2
          refine ⟨⟨0 + 1, _, by omega, by go_num, rfl, ?_, ?_⟩, by simp [intOf]; omega⟩
          · rw [← len_list]; refine Nat.le_trans (Nat.le_of_eq ?_) hnext.out; rw [hs.out]; simp [M.wordB]
          · show _ = _
            rw [hs.out]; simp [M.wordB]
        · have hs := hid (M.text_step hjl hj0)
          rw [HX.out] at hs
          have hpos2 : (0 : Int) < (j : Int) := by omega
          have m := NM.out 1 (by omega)
          simp [nmS] at m
          go_wp2
          refine ⟨⟨j + 1, _, by omega, by go_num, rfl, ?_, ?_⟩, by simp [intOf]; omega⟩
          · rw [← len_list]; refine Nat.le_trans (Nat.le_of_eq ?_) hnext.out; rw [hs.out]; simp [hI.out, M.wordB]
          · show _ = _
            rw [hs.out]; simp [hI.out, M.wordB]
      by_cases k2 : k = 2
      · subst k2
        rcases Nat.eq_zero_or_pos j with rfl | hj0
        · have hs := hid (M.text_first hjl)
          rw [HX.out] at hs
          have ht0 : t = ⟨#[]⟩ := M.bytes_ext hI.out
          subst ht0
          simp only [Nat.zero_mul, Nat.add_zero] at c1 c2
          have m := NM.out 2 (by omega)
          simp [nmS] at m
          go_wp2
          refine ⟨⟨0 + 1, _, by omega, by go_num, rfl, ?_, ?_⟩, by simp [intOf]; omega⟩
          · rw [← len_list]; refine Nat.le_trans (Nat.le_of_eq ?_) hnext.out; rw [hs.out]; simp [M.wordB]
          · show _ = _
            rw [hs.out]; simp [M.wordB]
        · have hs := hid (M.text_step hjl hj0)
          rw [HX.out] at hs
          have hpos2 : (0 : Int) < (j : Int) := by omega
          have m := NM.out 2 (by omega)
          simp [nmS] at m
          go_wp2
          refine ⟨⟨j + 1, _, by omega, by go_num, rfl, ?_, ?_⟩, by simp [intOf]; omega⟩
          · rw [← len_list]; refine Nat.le_trans (Nat.le_of_eq ?_) hnext.out; rw [hs.out]; simp [hI.out, M.wordB]
          · show _ = _
            rw [hs.out]; simp [hI.out, M.wordB]
      by_cases k3 : k = 3
      · subst k3
        rcases Nat.eq_zero_or_pos j with rfl | hj0
        · have hs := hid (M.text_first hjl)
          rw [HX.out] at hs
          have ht0 : t = ⟨#[]⟩ := M.bytes_ext hI.out
          subst ht0
          simp only [Nat.zero_mul, Nat.add_zero] at c1 c2
          have m := NM.out 3 (by omega)
          simp [nmS] at m
          go_wp2_with ((go_at_call 69; refine (HK1.out _).mono ?_; rintro e w' ⟨rfl, rfl⟩))
          refine ⟨⟨0 + 1, _, by omega, by go_num, rfl, ?_, ?_⟩, by simp [intOf]; omega⟩
          · rw [← len_list]; refine Nat.le_trans (Nat.le_of_eq ?_) hnext.out; rw [hs.out]; simp [M.wordB, HST.out]
          · show _ = _
            rw [hs.out]; simp [M.wordB, HST.out]
        · have hs := hid (M.text_step hjl hj0)
          rw [HX.out] at hs
          have hpos2 : (0 : Int) < (j : Int) := by omega
          have m := NM.out 3 (by omega)
          simp [nmS] at m
          go_wp2_with ((go_at_call 69; refine (HK1.out _).mono ?_; rintro e w' ⟨rfl, rfl⟩))
          refine ⟨⟨j + 1, _, by omega, by go_num, rfl, ?_, ?_⟩, by simp [intOf]; omega⟩
          · rw [← len_list]; refine Nat.le_trans (Nat.le_of_eq ?_) hnext.out; rw [hs.out]; simp [hI.out, M.wordB, HST.out]
          · show _ = _
            rw [hs.out]; simp [hI.out, M.wordB, HST.out]
      by_cases k4 : k = 4
      · subst k4
        rcases Nat.eq_zero_or_pos j with rfl | hj0
        · have hs := hid (M.text_first hjl)
          rw [HX.out] at hs
          have ht0 : t = ⟨#[]⟩ := M.bytes_ext hI.out
          subst ht0
          simp only [Nat.zero_mul, Nat.add_zero] at c1 c2
          have m := NM.out 4 (by omega)
          simp [nmS] at m
          go_wp2_with ((go_at_call 69; refine (HK1.out _).mono ?_; rintro e w' ⟨rfl, rfl⟩))
          refine ⟨⟨0 + 1, _, by omega, by go_num, rfl, ?_, ?_⟩, by simp [intOf]; omega⟩
          · rw [← len_list]; refine Nat.le_trans (Nat.le_of_eq ?_) hnext.out; rw [hs.out]; simp [M.wordB, HST.out]
          · show _ = _
            rw [hs.out]; simp [M.wordB, HST.out]
        · have hs := hid (M.text_step hjl hj0)
          rw [HX.out] at hs
          have hpos2 : (0 : Int) < (j : Int) := by omega
          have m := NM.out 4 (by omega)
          simp [nmS] at m
          go_wp2_with ((go_at_call 69; refine (HK1.out _).mono ?_; rintro e w' ⟨rfl, rfl⟩))
          refine ⟨⟨j + 1, _, by omega, by go_num, rfl, ?_, ?_⟩, by simp [intOf]; omega⟩
          · rw [← len_list]; refine Nat.le_trans (Nat.le_of_eq ?_) hnext.out; rw [hs.out]; simp [hI.out, M.wordB, HST.out]
          · show _ = _
            rw [hs.out]; simp [hI.out, M.wordB, HST.out]
      by_cases k5 : k = 5
      · subst k5
        rcases Nat.eq_zero_or_pos j with rfl | hj0
        · have hs := hid (M.text_first hjl)
          rw [HX.out] at hs
          have ht0 : t = ⟨#[]⟩ := M.bytes_ext hI.out
          subst ht0
          simp only [Nat.zero_mul, Nat.add_zero] at c1 c2
          have m := NM.out 5 (by omega)
          simp [nmS] at m
          go_wp2_with ((go_at_call 69; refine (HK1.out _).mono ?_; rintro e w' ⟨rfl, rfl⟩))
          refine ⟨⟨0 + 1, _, by omega, by go_num, rfl, ?_, ?_⟩, by simp [intOf]; omega⟩
          · rw [← len_list]; refine Nat.le_trans (Nat.le_of_eq ?_) hnext.out; rw [hs.out]; simp [M.wordB, HST.out]
          · show _ = _
            rw [hs.out]; simp [M.wordB, HST.out]
        · have hs := hid (M.text_step hjl hj0)
          rw [HX.out] at hs
          have hpos2 : (0 : Int) < (j : Int) := by omega
          have m := NM.out 5 (by omega)
          simp [nmS] at m
          go_wp2_with ((go_at_call 69; refine (HK1.out _).mono ?_; rintro e w' ⟨rfl, rfl⟩))
          refine ⟨⟨j + 1, _, by omega, by go_num, rfl, ?_, ?_⟩, by simp [intOf]; omega⟩
          · rw [← len_list]; refine Nat.le_trans (Nat.le_of_eq ?_) hnext.out; rw [hs.out]; simp [hI.out, M.wordB, HST.out]
          · show _ = _
            rw [hs.out]; simp [hI.out, M.wordB, HST.out]
      by_cases k6 : k = 6
      · subst k6
        rcases Nat.eq_zero_or_pos j with rfl | hj0
        · have hs := hid (M.text_first hjl)
          rw [HX.out] at hs
          have ht0 : t = ⟨#[]⟩ := M.bytes_ext hI.out
          subst ht0
          simp only [Nat.zero_mul, Nat.add_zero] at c1 c2
          have m := NM.out 6 (by omega)
          simp [nmS] at m
          go_wp2
          refine ⟨⟨0 + 1, _, by omega, by go_num, rfl, ?_, ?_⟩, by simp [intOf]; omega⟩
          · rw [← len_list]; refine Nat.le_trans (Nat.le_of_eq ?_) hnext.out; rw [hs.out]; simp [M.wordB]
          · show _ = _
            rw [hs.out]; simp [M.wordB]
        · have hs := hid (M.text_step hjl hj0)
          rw [HX.out] at hs
          have hpos2 : (0 : Int) < (j : Int) := by omega
          have m := NM.out 6 (by omega)
          simp [nmS] at m
          go_wp2
          refine ⟨⟨j + 1, _, by omega, by go_num, rfl, ?_, ?_⟩, by simp [intOf]; omega⟩
          · rw [← len_list]; refine Nat.le_trans (Nat.le_of_eq ?_) hnext.out; rw [hs.out]; simp [hI.out, M.wordB]
          · show _ = _
            rw [hs.out]; simp [hI.out, M.wordB]
      have hfar : k < 0 ∨ 6 < k := by omega
      rcases hfar with hf | hf
      · rcases Nat.eq_zero_or_pos j with rfl | hj0
        · have hs := hid (M.text_first hjl)
          rw [HX.out] at hs
          have ht0 : t = ⟨#[]⟩ := M.bytes_ext hI.out
          subst ht0
          simp only [Nat.zero_mul, Nat.add_zero] at c1 c2
          go_wp2
          refine ⟨⟨0 + 1, _, by omega, by go_num, rfl, ?_, ?_⟩, by simp [intOf]; omega⟩
          · rw [← len_list]; refine Nat.le_trans (Nat.le_of_eq ?_) hnext.out; rw [hs.out]; simp [M.wordB, k0, k1, k2, k3, k4, k5, k6]
          · show _ = _
            rw [hs.out]; simp [M.wordB, k0, k1, k2, k3, k4, k5, k6]
        · have hs := hid (M.text_step hjl hj0)
          rw [HX.out] at hs
          have hpos2 : (0 : Int) < (j : Int) := by omega
          go_wp2
          refine ⟨⟨j + 1, _, by omega, by go_num, rfl, ?_, ?_⟩, by simp [intOf]; omega⟩
          · rw [← len_list]; refine Nat.le_trans (Nat.le_of_eq ?_) hnext.out; rw [hs.out]; simp [hI.out, M.wordB, k0, k1, k2, k3, k4, k5, k6]
          · show _ = _
            rw [hs.out]; simp [hI.out, M.wordB, k0, k1, k2, k3, k4, k5, k6]
      · rcases Nat.eq_zero_or_pos j with rfl | hj0
        · have hs := hid (M.text_first hjl)
          rw [HX.out] at hs
          have ht0 : t = ⟨#[]⟩ := M.bytes_ext hI.out
          subst ht0
          simp only [Nat.zero_mul, Nat.add_zero] at c1 c2
          go_wp2
          refine ⟨⟨0 + 1, _, by omega, by go_num, rfl, ?_, ?_⟩, by simp [intOf]; omega⟩
          · rw [← len_list]; refine Nat.le_trans (Nat.le_of_eq ?_) hnext.out; rw [hs.out]; simp [M.wordB, k0, k1, k2, k3, k4, k5, k6]
          · show _ = _
            rw [hs.out]; simp [M.wordB, k0, k1, k2, k3, k4, k5, k6]
        · have hs := hid (M.text_step hjl hj0)
          rw [HX.out] at hs
          have hpos2 : (0 : Int) < (j : Int) := by omega
          go_wp2
          refine ⟨⟨j + 1, _, by omega, by go_num, rfl, ?_, ?_⟩, by simp [intOf]; omega⟩
          · rw [← len_list]; refine Nat.le_trans (Nat.le_of_eq ?_) hnext.out; rw [hs.out]; simp [hI.out, M.wordB, k0, k1, k2, k3, k4, k5, k6]
          · show _ = _
            rw [hs.out]; simp [hI.out, M.wordB, k0, k1, k2, k3, k4, k5, k6]
    · go_wp2
      go_ret
      refine ⟨ret_string (bs_of ?_), BW.out⟩
      rw [hI.out, List.take_of_length_le (by omega)]
end Go.Proofs.YtbaaeobdjiglgaaGreat
