/-
  The walks of the document's Sites, Site and Blocks, and of the law NumberTells. No conditions but bounds.
-/
import Derived.Test.YtcjmjdgcehmigaaW2
import Derived.Test.YtcjmjdgcehmigaaW5
set_option linter.unusedVariables false
set_option linter.unusedSimpArgs false
namespace Go.Proofs.Ytcjmjdgcehmigaa
open Go.RowKit

theorem rlist0 : RLC 0 := by
  intro w0 w v t hk hN hw hv
  obtain rfl : t = .nil := len_nil (by have := sz_pos t; omega)
  obtain ⟨cs, ⟨l1, a1, cap1, rfl, g1⟩, row1⟩ := hv
  have hz : (M.Tr.nil).len = 0 := rfl
  have hrow0 := World.ownsRow_lit (base := w.heap.size) (e := 36) (size := 8) w #[] 0 (Nat.le_refl _) (by simp [maxLen]) (by simp)
  go_enter Try.func14, Try.ntmps14
  go_wp2_with fail
  go_loop [3, 4] (fun o i => o = .slice (some ⟨w.heap.size, 0, none⟩) 0 0 ∧ i = .int .i64 0) (fun _ _ => 0)
  case atStart => exact ⟨rfl, rfl⟩
  case round =>
    obtain ⟨rfl, rfl⟩ := hrel
    go_wp2_with fail
    go_ret
    exact ⟨_, _, rfl, [], SlAt.of_owns hrow0 (fun b _ h => h) (Nat.zero_le _), rfl, (Below.refl _ _).alloc (Nat.le_refl _) _⟩
theorem rlistC : ∀ k, RLC k
  | 0 => rlist0
  | k + 1 => rlist_step k (rlistC k)
theorem rlist_any (w : World) (v : Value) (t : M.Tr) (hN : t.sz ≤ 1048576) (hv : StmAt w NoX v t) :
    Calls Try.prog 14 #[v] w fun e w' => ∃ q m, e = .returned (.slice q (M.nodes t).length m) ∧ StmAt w' NoX (.slice q (M.nodes t).length m) (M.toTr (M.nodes t)) ∧ Below w.heap.size w w' :=
  (rlistC t.sz w w v t (Nat.le_refl _) hN (Below.refl _ _) hv).mono fun e w' ⟨q, m, cells, h1, h2, h3, h4⟩ => ⟨q, m, h1, ⟨cells, by rw [M.toTr_len]; exact h2, RowAt.keep (Below.keepX h4) h3⟩, h4⟩

set_option maxRecDepth 8000 in
set_option maxHeartbeats 2000000 in
theorem rsites_any (w : World) (v : Value) (t : M.Tr) (hN : t.sz ≤ 1048576) (hv : StmAt w NoX v t) :
    Calls Try.prog 19 #[v] w fun e w' => e = .returned (.int .i64 (M.sites (M.nodes t) : Nat)) ∧ Below w.heap.size w w' := by
  obtain ⟨va, vc, rfl⟩ := StmAt.form hv
  have hnl : (M.nodes t).length ≤ 1048576 := by rw [M.nodes_len]; exact hN
  go_enter Try.func19, Try.ntmps19
  go_wp2_with (go_at_call 14; refine stopHere ?_)
  refine stopAt ?_
  refine (rlist_any w _ t hN hv).mono ?_
  rintro e w1 ⟨q, m, rfl, s1, b1⟩
  go_wp2_with fail
  go_loop [4, 5] (fun kk i => ∃ j : Nat, j ≤ (M.nodes t).length ∧ i = .int .i64 j ∧ kk = .int .i64 ((M.sites ((M.nodes t).take j) : Nat) : Int)) (fun _ i => (M.nodes t).length - (intOf i).toNat)
  case atStart => exact ⟨0, Nat.zero_le _, rfl, rfl⟩
  case round =>
    obtain ⟨j, hj, rfl, rfl⟩ := hrel
    have hsl : M.sites ((M.nodes t).take j) ≤ 1048576 := by have h1 := M.sites_le ((M.nodes t).take j); have h2 := List.length_take_le' j (M.nodes t); omega
    by_cases hjl : j < (M.nodes t).length
    · obtain ⟨d, hd⟩ : ∃ d, (M.nodes t)[j]? = some d := ⟨_, List.getElem?_eq_getElem hjl⟩
      have hst := take_sites_step hd
      obtain ⟨gb, go, qa, ma, qp, mp, qt, mt, qe, me, e, hgb, hcL, hcM, ⟨f0, f4, f5, f6, f7⟩, sT, sE⟩ := at_stm s1 hd
      subst e
      have hji : (j : Int) < ((M.nodes t).length : Int) := by omega
      clear hd f4 f5 f6 f7 sT sE
      by_cases h4 : d.op = 4
      · have HST : Hid (M.sites ((M.nodes t).take (j + 1)) = M.sites ((M.nodes t).take j) + 1) := by show _ = _; rw [hst, if_pos h4]
        have h4b : (d.op == 4) = true := by simpa using h4
        clear hst
        go_wp2
        refine ⟨⟨j + 1, by omega, by go_num, by rw [HST.out]; go_num⟩, by simp [intOf]; omega⟩
      · have HST : Hid (M.sites ((M.nodes t).take (j + 1)) = M.sites ((M.nodes t).take j)) := by show _ = _; rw [hst, if_neg h4]; rfl
        have h4b : (d.op == 4) = false := by simpa using h4
        clear hst
        go_wp2
        refine ⟨⟨j + 1, by omega, by go_num, by rw [HST.out]⟩, by simp [intOf]; omega⟩
    · go_wp2
      go_ret
      exact ⟨ret_int (by rw [List.take_of_length_le (by omega)]), b1⟩

set_option maxRecDepth 8000 in
set_option maxHeartbeats 2000000 in
theorem rsite_any (w : World) (v : Value) (t : M.Tr) (n : Int) (hN : t.sz ≤ 1048576) (hv : StmAt w NoX v t) :
    Calls Try.prog 11 #[v, .int .i64 n] w fun e w' => e = .returned (.tuple #[.int .i64 (M.site (M.nodes t) n).1, .bool (M.site (M.nodes t) n).2]) ∧ Below w.heap.size w w' := by
  obtain ⟨va, vc, rfl⟩ := StmAt.form hv
  have hnl : (M.nodes t).length ≤ 1048576 := by rw [M.nodes_len]; exact hN
  go_enter Try.func11, Try.ntmps11
  go_wp2_with (go_at_call 14; refine stopHere ?_)
  refine stopAt ?_
  refine (rlist_any w _ t hN hv).mono ?_
  rintro e w1 ⟨q, m, rfl, s1, b1⟩
  by_cases hn : 0 ≤ n ∧ n < ((M.nodes t).length : Int)
  case neg =>
    have HS := hid (M.site_no (l := M.nodes t) (n := n) (by intro d h0 hd; have := (List.getElem?_eq_some_iff.1 hd).1; omega))
    rcases (by omega : n < 0 ∨ (0 ≤ n ∧ ((M.nodes t).length : Int) ≤ n)) with h | ⟨h, h'⟩
    all_goals
      clear hn
      go_wp2
      go_ret2
      exact ⟨by rw [HS.out]; rfl, b1⟩
  obtain ⟨k, rfl⟩ : ∃ k : Nat, n = (k : Int) := ⟨n.toNat, by omega⟩
  have hk : k < (M.nodes t).length := by omega
  obtain ⟨d, hd⟩ : ∃ d, (M.nodes t)[k]? = some d := ⟨_, List.getElem?_eq_getElem hk⟩
  obtain ⟨gb, go, qa, ma, qp, mp, qt, mt, qe, me, e, hgb, hcL, hcM, ⟨f0, f4, f5, f6, f7⟩, sT, sE⟩ := at_stm s1 hd
  subst e
  have hki : (k : Int) < ((M.nodes t).length : Int) := by omega
  clear hn f4 f5 f6 f7 sT sE
  by_cases h4 : d.op = 4
  case neg =>
    have HS := hid (M.site_no (l := M.nodes t) (n := (k : Int)) (by intro d' h0 he; rw [Int.toNat_natCast, hd] at he; cases he; exact h4))
    have h4n : (d.op != 4) = true := by simpa using h4
    clear hd
    go_wp2
    go_ret2
    exact ⟨by rw [HS.out]; rfl, b1⟩
  have HS : Hid (M.site (M.nodes t) (k : Nat) = (((M.sites ((M.nodes t).take k) : Nat) : Int), true)) := by
    have hsp : M.nodes t = (M.nodes t).take k ++ d :: (M.nodes t).drop (k + 1) := by
      have h1 : (M.nodes t)[k] = d := by simpa [List.getElem?_eq_getElem hk] using hd
      rw [← h1, ← List.drop_eq_getElem_cons hk, List.take_append_drop]
    have := M.site_yes hsp h4
    rw [List.length_take_of_le (by omega)] at this
    exact this
  have h4n : (d.op != 4) = false := by simpa using h4
  clear hd
  go_wp2_with fail
  clear f0 h4 h4n
  go_loop [7, 8] (fun kk i => ∃ j : Nat, j ≤ k ∧ i = .int .i64 j ∧ kk = .int .i64 ((M.sites ((M.nodes t).take j) : Nat) : Int)) (fun _ i => k - (intOf i).toNat)
  case atStart => exact ⟨0, Nat.zero_le _, rfl, rfl⟩
  case round =>
    obtain ⟨j, hj, rfl, rfl⟩ := hrel
    have hsl : M.sites ((M.nodes t).take j) ≤ 1048576 := by have h1 := M.sites_le ((M.nodes t).take j); have h2 := List.length_take_le' j (M.nodes t); omega
    by_cases hjl : j < k
    · obtain ⟨d2, hd2⟩ : ∃ d, (M.nodes t)[j]? = some d := ⟨_, List.getElem?_eq_getElem (by omega)⟩
      have hst := take_sites_step hd2
      obtain ⟨gb', go', _, _, _, _, _, _, _, _, e, _, _, _, ⟨f0, f4, f5, f6, f7⟩, sT, sE⟩ := at_stm s1 hd2
      simp only [Option.some.injEq, Addr.mk.injEq, and_true] at e
      obtain ⟨rfl, rfl⟩ := e
      have hji : (j : Int) < (k : Int) := by omega
      have hji2 : (j : Int) < ((M.nodes t).length : Int) := by omega
      clear hd2 f4 f5 f6 f7 sT sE
      by_cases h4 : d2.op = 4
      · have HST : Hid (M.sites ((M.nodes t).take (j + 1)) = M.sites ((M.nodes t).take j) + 1) := by show _ = _; rw [hst, if_pos h4]
        have h4b : (d2.op == 4) = true := by simpa using h4
        clear hst
        go_wp2
        refine ⟨⟨j + 1, by omega, by go_num, by rw [HST.out]; go_num⟩, by simp [intOf]; omega⟩
      · have HST : Hid (M.sites ((M.nodes t).take (j + 1)) = M.sites ((M.nodes t).take j)) := by show _ = _; rw [hst, if_neg h4]; rfl
        have h4b : (d2.op == 4) = false := by simpa using h4
        clear hst
        go_wp2
        refine ⟨⟨j + 1, by omega, by go_num, by rw [HST.out]⟩, by simp [intOf]; omega⟩
    · obtain rfl : j = k := by omega
      go_wp2
      go_ret2
      exact ⟨by rw [HS.out]; rfl, b1⟩

set_option maxRecDepth 8000 in
set_option maxHeartbeats 2000000 in
theorem rblocks_any (w : World) (v : Value) (t : M.Tr) (n : Int) (hN : t.sz ≤ 1048576) (hv : StmAt w NoX v t) :
    Calls Try.prog 13 #[v, .int .i64 n] w fun e w' => e = .returned (.tuple #[.int .i64 (M.blocks (M.nodes t) n).1, .int .i64 (M.blocks (M.nodes t) n).2.1, .int .i64 (M.blocks (M.nodes t) n).2.2]) ∧ Below w.heap.size w w' := by
  obtain ⟨va, vc, rfl⟩ := StmAt.form hv
  have hnl : (M.nodes t).length ≤ 1048576 := by rw [M.nodes_len]; exact hN
  go_enter Try.func13, Try.ntmps13
  go_wp2_with (go_at_call 14; refine stopHere ?_)
  refine stopAt ?_
  refine (rlist_any w _ t hN hv).mono ?_
  rintro e w1 ⟨q, m, rfl, s1, b1⟩
  by_cases hn : 0 ≤ n ∧ n < ((M.nodes t).length : Int)
  case neg =>
    have HS := hid (M.blocks_no (l := M.nodes t) (n := n) (by omega))
    rcases (by omega : n < 0 ∨ (0 ≤ n ∧ ((M.nodes t).length : Int) ≤ n)) with h | ⟨h, h'⟩
    all_goals
      clear hn
      go_wp2
      refine bodyPost_ret (v := .tuple #[.int .i64 (-1), .int .i64 (-1), .int .i64 (-1)]) (by simp [results, Try.results13, go_sem]) rfl ⟨by rw [HS.out], b1⟩
  obtain ⟨k, rfl⟩ : ∃ k : Nat, n = (k : Int) := ⟨n.toNat, by omega⟩
  have hk : k < (M.nodes t).length := by omega
  obtain ⟨d, hd⟩ : ∃ d, (M.nodes t)[k]? = some d := ⟨_, List.getElem?_eq_getElem hk⟩
  obtain ⟨r, hr⟩ := M.nodes_at t k d hd
  have hle : k + 1 + (M.nodes d.th).length + (M.nodes d.el).length ≤ (M.nodes t).length := by
    have := congrArg List.length hr
    simp only [List.length_drop, List.length_append] at this
    omega
  have HB : Hid (M.blocks (M.nodes t) (k : Nat) = ((k : Int) + 1, (k : Int) + 1 + ((M.nodes d.th).length : Nat), (k : Int) + 1 + ((M.nodes d.th).length : Nat) + ((M.nodes d.el).length : Nat))) := by
    show _ = _
    unfold M.blocks
    rw [if_pos (by omega), Int.toNat_natCast, hd]
  obtain ⟨gb, go, qa, ma, qp, mp, qt, mt, qe, me, e, hgb, hcL, hcM, ⟨f0, f4, f5, f6, f7⟩, sT, sE⟩ := at_stm s1 hd
  subst e
  have hki : (k : Int) < ((M.nodes t).length : Int) := by omega
  have hsT : d.th.sz ≤ 1048576 := by rw [← M.nodes_len]; omega
  have hsE : d.el.sz ≤ 1048576 := by rw [← M.nodes_len]; omega
  clear hn hr hd f0 f4 f5
  go_wp2_with (go_at_call 14; refine stopHere ?_)
  refine stopAt ?_
  refine (rlist_any w1 _ d.th hsT sT).mono ?_
  rintro e w2 ⟨q2, m2, rfl, s2, b2⟩
  rw [← b2.cell (p := ⟨gb, _, none⟩) hgb] at f7
  clear f6
  go_wp2_with (go_at_call 14; refine stopHere ?_)
  refine stopAt ?_
  refine (rlist_any w2 _ d.el hsE (sE.bel b2)).mono ?_
  rintro e w3 ⟨q3, m3, rfl, s3, b3⟩
  go_wp2
  refine bodyPost_ret (v := .tuple #[.int .i64 ((k : Int) + 1), .int .i64 ((k : Int) + 1 + ((M.nodes d.th).length : Nat)), .int .i64 ((k : Int) + 1 + ((M.nodes d.th).length : Nat) + ((M.nodes d.el).length : Nat))]) (by simp [results, Try.results13, go_sem]) rfl ⟨by rw [HB.out], b1.trans ((b2.trans (b3.mono b2.size)).mono b1.size)⟩
end Go.Proofs.Ytcjmjdgcehmigaa
