/-
  The walks of proteanref03.Count and proteanref03.Deep. No conditions but bounds.
-/
import Derived.Test.YtkpmpnebmkeocaaGreatDoorN1
set_option linter.unusedVariables false
set_option linter.unusedSimpArgs false
namespace Go.Proofs.YtkpmpnebmkeocaaGreatDoor
open Go.RowKit

def M.deep : M.Tr → Nat → Nat
  | .nil, _ => 0
  | .cons _ _ _ _ _ _ th el nx, m => if m = 0 then 0 else max (1 + max (M.deep th (m - 1)) (M.deep el (m - 1))) (M.deep nx m)
theorem M.deep_le : ∀ (t : M.Tr) (m : Nat), M.deep t m ≤ m
  | .nil, _ => Nat.zero_le _
  | .cons _ _ _ _ _ _ th el nx, m => by
    unfold M.deep
    split
    · omega
    · have h1 := M.deep_le th (m - 1)
      have h2 := M.deep_le el (m - 1)
      have h3 := M.deep_le nx m
      omega

def CntC (k : Nat) : Prop := ∀ (w : World) (v : Value) (t : M.Tr), t.sz ≤ k → t.sz ≤ 4294967296 → StmAt w NoX v t → Calls Tryz.prog 20 #[v] w fun e w' => e = .returned (.int .i64 (t.sz : Nat)) ∧ ∃ n, w' = w.drewN n

theorem stm_drewN {w : World} {X : Nat → Prop} {v : Value} {t : M.Tr} (h : StmAt w X v t) (n : Nat) : StmAt (w.drewN n) X v t := h.bel (below_drewN (Below.refl _ _) n)
theorem max_int (a b : Nat) : max (a : Int) (b : Int) = ((max a b : Nat) : Int) := by omega

set_option maxRecDepth 8000 in
set_option maxHeartbeats 2000000 in
theorem rcount_step (k : Nat) (hC : CntC k) : CntC (k + 1) := by
  intro w v t hk hN hv
  obtain ⟨cs, ⟨l1, a1, cap1, rfl, g1⟩, row1⟩ := hv
  have hlen : t.len ≤ t.sz := M.len_le_sz t
  go_enter Tryz.func20, Tryz.ntmps20
  go_wp2_with fail
  go_loopw [3, 4] (fun n i wr => ∃ (j : Nat) (t' : M.Tr) (q : Nat), i = .int .i64 j ∧ j + t'.len = t.len ∧ n = .int .i64 (q : Nat) ∧ Hid (q + t'.sz = t.sz + t'.len) ∧ (∃ d, wr = w.drewN d) ∧ RowAt w NoX (cs.drop (j * 8)) t' ∧ t'.sz ≤ k + 1) (fun _ i _ => t.len - (intOf i).toNat)
  case atStart => exact ⟨0, t, t.len, rfl, Nat.zero_add _, rfl, Nat.add_comm _ _, ⟨0, rfl⟩, by simpa using row1, hk⟩
  case round =>
    obtain ⟨j, t', q, rfl, hj, rfl, HQ, ⟨d, rfl⟩, r1, hs1⟩ := hrel
    have hq : q ≤ 4294967296 := by have h1 := HQ.out; have h2 := M.len_le_sz t'; omega
    by_cases hjl : j < t.len
    · cases t' with
      | nil => simp only [M.Tr.len] at hj; omega
      | cons op x y p a pr th el nx =>
        obtain ⟨va1, vp1, vt1, ve1, ct1, ce1, rest1, e1, gA1, gP1, gT1, gE1, gN1⟩ := r1
        rcases g1 with ⟨g1, _⟩ | ⟨b1, o1, rfl, hlt1, _, hc1⟩
        · omega
        obtain ⟨f0, f1, f2, f3, f4, f5, f6, f7, fr⟩ := eight hc1 e1
        have gT1' : StmAt w NoX vt1 th := ⟨ct1, gT1.1, gT1.2⟩
        have gE1' : StmAt w NoX ve1 el := ⟨ce1, gE1.1, gE1.2⟩
        obtain ⟨q5, m5, rfl⟩ := StmAt.form gT1'
        obtain ⟨q7, m7, rfl⟩ := StmAt.form gE1'
        have hsz : th.sz + el.sz + q + nx.sz = t.sz + nx.len := by have h1 := HQ.out; simp only [M.Tr.sz, M.Tr.len] at h1; omega
        have hnl := M.len_le_sz nx
        have hnz : nx.len ≤ nx.sz := hnl
        have hj3 : j + (nx.len + 1) = t.len := hj
        simp only [M.Tr.sz] at hs1
        have hk1 : th.sz ≤ k ∧ el.sz ≤ k := by omega
        have hk3 : nx.sz ≤ k + 1 := by omega
        have hk2 : th.sz + el.sz + q ≤ 4294967296 := by omega
        have gT2 := stm_drewN gT1' d
        have gE2 := stm_drewN gE1' d
        replace f6 : (w.drewN d).cell? ⟨b1, o1 + j * 8 + 6, none⟩ = some (.slice q5 th.len m5) := f6
        replace f7 : (w.drewN d).cell? ⟨b1, o1 + j * 8 + 7, none⟩ = some (.slice q7 el.len m7) := f7
        have HW : Hid (∃ d, w.drewN d = w.drewN d) := ⟨d, rfl⟩
        have HW2 : Hid (∃ d', w.drewN d = w.drewN d') := ⟨d, rfl⟩
        clear f0 f1 f2 f3 f4 f5 HW
        generalize w.drewN d = W at f6 f7 gT2 gE2 HW2 ⊢
        have HT : Hid (∀ n, Calls Tryz.prog 20 #[.slice q5 th.len m5] (W.drewN n) fun e w' => e = .returned (.int .i64 (th.sz : Nat)) ∧ ∃ m, w' = (W.drewN n).drewN m) := fun n => hC _ _ th hk1.1 (by omega) (stm_drewN gT2 n)
        have HE : Hid (∀ n, Calls Tryz.prog 20 #[.slice q7 el.len m7] (W.drewN n) fun e w' => e = .returned (.int .i64 (el.sz : Nat)) ∧ ∃ m, w' = (W.drewN n).drewN m) := fun n => hC _ _ el hk1.2 (by omega) (stm_drewN gE2 n)
        have hji : (j : Int) < (t.len : Int) := by omega
        have HS := hid hsz
        have HJ := hid hj3
        clear hsz hj hj3 hnl
        go_wp2_with fail
        go_quiet ((first | (go_at_call 20; with_reducible exact Calls.quiet_of (HT.out _)) | (go_at_call 20; with_reducible exact Calls.quiet_of (HE.out _))))
        go_wp2
        have e1 := HS.out
        have e2 := HJ.out
        refine ⟨⟨j + 1, nx, q + (th.sz + el.sz), by go_num, by omega, by go_num, by show _ = _; omega, (by obtain ⟨d', e⟩ := HW2.out; rw [e]; exact ⟨_, drewN_drewN _ _ _⟩), by rw [fr]; exact gN1, hk3⟩, by simp [intOf]; omega⟩
    · obtain rfl : t' = .nil := len_nil (by omega)
      go_wp2
      go_ret
      have h1 := HQ.out
      simp only [M.Tr.sz, M.Tr.len] at h1
      exact ⟨ret_int (by omega), _, rfl⟩
theorem rcount0 : CntC 0 := by
  intro w v t hk hN hv
  obtain rfl : t = .nil := len_nil (by have := sz_pos t; omega)
  obtain ⟨cs, ⟨l1, a1, cap1, rfl, g1⟩, row1⟩ := hv
  have hz : (M.Tr.nil).len = 0 := rfl
  go_enter Tryz.func20, Tryz.ntmps20
  go_wp2_with fail
  go_loop [3, 4] (fun n i => n = .int .i64 0 ∧ i = .int .i64 0) (fun _ _ => 0)
  case atStart => exact ⟨rfl, rfl⟩
  case round =>
    obtain ⟨rfl, rfl⟩ := hrel
    go_wp2_with fail
    go_ret
    exact ⟨rfl, 0, rfl⟩
theorem rcountC : ∀ k, CntC k
  | 0 => rcount0
  | k + 1 => rcount_step k (rcountC k)
theorem rcount_any (w : World) (v : Value) (t : M.Tr) (hN : t.sz ≤ 4294967296) (hv : StmAt w NoX v t) : Calls Tryz.prog 20 #[v] w fun e w' => e = .returned (.int .i64 (t.sz : Nat)) ∧ ∃ n, w' = w.drewN n :=
  rcountC t.sz w v t (Nat.le_refl _) hN hv
end Go.Proofs.YtkpmpnebmkeocaaGreatDoor
