/-
  The walk of the law NumberSites. No conditions but bounds.
-/
import Derived.Test.YtcjmjdgcehmigaaW1
set_option linter.unusedVariables false
set_option linter.unusedSimpArgs false
namespace Go.Proofs.Ytcjmjdgcehmigaa
open Go.RowKit

theorem take_sites_step {l : List M.Nd} {m : Nat} {d : M.Nd} (h : l[m]? = some d) : M.sites (l.take (m + 1)) = M.sites (l.take m) + if d.op = 4 then 1 else 0 := by
  have hlt := (List.getElem?_eq_some_iff.1 h).1
  rw [List.take_succ_eq_append_getElem hlt, M.sites_snoc]
  have : l[m] = d := by simpa [List.getElem?_eq_getElem hlt] using h
  rw [this]

namespace NumberSites
set_option maxRecDepth 16000 in
set_option maxHeartbeats 4000000 in
theorem walk (w : World) (v : Value) (t : M.Tr) (hv : StmAt w NoX v t) (hN : (M.nodes t).length ≤ 1048576) (hF : Few 4294967296 t) :
    Calls Try.prog 5 #[v] w fun e w' => e = .returned (.bool true) ∧ Below w.heap.size w w' := by
  have hsz : t.sz ≤ 1048576 := by rw [← M.nodes_len]; exact hN
  obtain ⟨va, vc, rfl⟩ := StmAt.form hv
  go_enter Try.func5, Try.ntmps5
  go_wp2_with (go_at_call 8; refine stopHere ?_)
  refine stopAt ?_
  refine (deep_any w _ t hv (by omega)).mono ?_
  rintro e w1 ⟨rfl, b1⟩
  by_cases hbig : M.big t = true
  · rw [hbig]
    go_wp2_with (go_at_call 9; refine stopHere ?_)
    refine stopAt ?_
    refine (fixed_any w1).mono ?_
    rintro e w2 ⟨rfl, b2⟩
    go_wp2
    go_ret
    exact ⟨rfl, b1.trans (b2.mono b1.size)⟩
  · have hbf : M.big t = false := by simpa using hbig
    rw [hbf]
    clear hbig hbf
    go_wp2_with (go_at_call 17; refine stopHere ?_)
    refine stopAt ?_
    refine (count_any w1 _ t (hv.bel b1) (by omega)).mono ?_
    rintro e w2 ⟨rfl, b2⟩
    have B2 := b1.trans (b2.mono b1.size)
    by_cases h1000 : 1000 < (M.nodes t).length
    · have hti : (1000 : Int) < ((M.nodes t).length : Int) := by omega
      go_wp2_with (go_at_call 9; refine stopHere ?_)
      refine stopAt ?_
      refine (fixed_any w2).mono ?_
      rintro e w3 ⟨rfl, b3⟩
      go_wp2
      go_ret
      exact ⟨rfl, B2.trans (b3.mono B2.size)⟩
    · have hti : ¬ (1000 : Int) < ((M.nodes t).length : Int) := by omega
      go_wp2_with (go_at_call 16; refine stopHere ?_)
      refine stopAt ?_
      refine (list_any w2 _ t (hv.bel B2) (by omega) hF).mono ?_
      rintro e w3 ⟨q3, m3, rfl, s3, b3⟩
      have B3 := B2.trans (b3.mono B2.size)
      go_wp2_with fail
      go_loopw [4, 5] (fun kk i wr => ∃ z : Int, -1 ≤ z ∧ z ≤ ((M.nodes t).length : Int) + 1 ∧ i = .int .i64 z ∧ kk = .int .i64 ((M.sites ((M.nodes t).take z.toNat) : Nat) : Int) ∧ Below w3.heap.size w3 wr) (fun _ i _ => ((M.nodes t).length + 1 - intOf i).toNat)
      case atStart => exact ⟨-1, by omega, by omega, rfl, by simp [M.sites], Below.refl _ _⟩
      case round =>
        obtain ⟨z, hz1, hz2, rfl, rfl, hb⟩ := hrel
        have B := B3.trans (hb.mono B3.size)
        have hsl : M.sites ((M.nodes t).take z.toNat) ≤ 1048576 := by have h1 := M.sites_le ((M.nodes t).take z.toNat); have h2 := List.length_take_le' z.toNat (M.nodes t); omega
        by_cases hz : z ≤ ((M.nodes t).length : Int)
        · go_wp2_with (go_at_call 10; refine stopHere ?_)
          refine stopAt ?_
          refine (site_any wr _ t z (hv.bel B) (by omega)).mono ?_
          rintro e wr2 ⟨rfl, hb2⟩
          have hb3 := hb.trans (hb2.mono hb.size)
          rcases (by omega : z = -1 ∨ z = ((M.nodes t).length : Int) ∨ (0 ≤ z ∧ z < ((M.nodes t).length : Int))) with h | h | h
          · subst h
            rw [M.site_no (by intro d hd; omega)]
            go_wp2
            refine ⟨⟨0, by omega, by omega, rfl, by simp [M.sites], hb3⟩, by simp [intOf]; omega⟩
          · rw [M.site_no (by intro d hd he; rw [h, Int.toNat_natCast, List.getElem?_eq_none (Nat.le_refl _)] at he; cases he)]
            have HS : Hid (M.sites ((M.nodes t).take z.toNat) = M.sites ((M.nodes t).take (z + 1).toNat)) := by
              show _ = _
              rw [List.take_of_length_le (by omega), List.take_of_length_le (by omega)]
            have hze : (z == ((M.nodes t).length : Int)) = true := by simpa using h
            have hz0 : ¬ z < 0 := by omega
            have Hh := hid h
            clear h
            go_wp2
            have := Hh.out
            refine ⟨⟨z + 1, by omega, by omega, rfl, by rw [HS.out], hb3⟩, by simp [intOf]; omega⟩
          · obtain ⟨m, rfl⟩ : ∃ m : Nat, z = (m : Int) := ⟨z.toNat, by omega⟩
            have hm : m < (M.nodes t).length := by omega
            obtain ⟨d, hd⟩ : ∃ d, (M.nodes t)[m]? = some d := ⟨_, List.getElem?_eq_getElem hm⟩
            have hst := take_sites_step hd
            obtain ⟨gb, go, qa, ma, qp, mp, qt, mt, qe, me, e, hgb, hcL, hcM, ⟨f0, f4, f5, f6, f7⟩, sT, sE⟩ := at_stm s3 hd
            rw [← hb3.cell (p := ⟨gb, _, none⟩) hgb] at f0
            have hne : ((m : Int) == ((M.nodes t).length : Int)) = false := by simp; omega
            have hmi : (m : Int) < ((M.nodes t).length : Int) := by omega
            rw [Int.toNat_natCast] at hsl ⊢
            have hdd := hid hd
            clear h hd hz hz1 hz2 f4 f5 f6 f7 sT sE
            subst e
            by_cases h4 : d.op = 4
            · have HSY : M.site (M.nodes t) (m : Nat) = (((M.sites ((M.nodes t).take m) : Nat) : Int), true) := by
                have hsp : M.nodes t = (M.nodes t).take m ++ d :: (M.nodes t).drop (m + 1) := by
                  have h1 : (M.nodes t)[m] = d := by have := hdd.out; simpa [List.getElem?_eq_getElem hm] using this
                  rw [← h1, ← List.drop_eq_getElem_cons hm, List.take_append_drop]
                have := M.site_yes hsp h4
                rw [List.length_take_of_le (by omega)] at this
                exact this
              rw [if_pos h4] at hst
              have HST := hid hst
              have h4b : (d.op == 4) = true := by simpa using h4
              rw [HSY]
              clear hst HSY
              go_wp2
              refine ⟨⟨(m : Int) + 1, by omega, by omega, rfl, by rw [show ((m : Int) + 1).toNat = m + 1 by omega, HST.out]; go_num, hb3⟩, by simp [intOf]; omega⟩
            · have HSN : M.site (M.nodes t) (m : Nat) = (0, false) := M.site_no (fun d' _ he => by
                rw [Int.toNat_natCast, hdd.out] at he
                cases he
                exact h4)
              rw [if_neg h4] at hst
              have HST : Hid (M.sites ((M.nodes t).take (m + 1)) = M.sites ((M.nodes t).take m)) := hst
              have h4n : (d.op != 4) = true := by simpa using h4
              have h4b : (d.op == 4) = false := by simpa using h4
              rw [HSN]
              clear hst HSN
              go_wp2
              refine ⟨⟨(m : Int) + 1, by omega, by omega, rfl, by rw [show ((m : Int) + 1).toNat = m + 1 by omega, HST.out], hb3⟩, by simp [intOf]; omega⟩
        · have HS : Hid (M.sites ((M.nodes t).take z.toNat) = M.sites (M.nodes t)) := by show _ = _; rw [List.take_of_length_le (by omega)]
          go_wp2_with (go_at_call 9; refine stopHere ?_)
          refine stopAt ?_
          refine (fixed_any wr).mono ?_
          rintro e wr2 ⟨rfl, hb2⟩
          have B2' := B.trans (hb2.mono B.size)
          go_wp2_with (go_at_call 18; refine stopHere ?_)
          refine stopAt ?_
          refine (sites_any wr2 _ t (hv.bel B2') (by omega)).mono ?_
          rintro e wr3 ⟨rfl, hb3⟩
          go_wp2
          go_ret
          exact ⟨ret_bool (by rw [HS.out]; simp), B2'.trans (hb3.mono B2'.size)⟩
end NumberSites
end Go.Proofs.Ytcjmjdgcehmigaa
