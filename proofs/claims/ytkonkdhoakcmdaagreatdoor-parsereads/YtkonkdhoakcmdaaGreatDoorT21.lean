/-
  proteanlaw02.ParseReads, walked: whatever the tokens and their end are: true, and all that was there is as it was. Conditions: how many tokens there are.
-/
import Derived.Test.YtkonkdhoakcmdaaGreatDoorT18
set_option linter.unusedVariables false
set_option linter.unusedSimpArgs false
namespace Go.Proofs.YtkonkdhoakcmdaaGreatDoor
open Go.RowKit
namespace ParseReads

set_option maxRecDepth 16000 in
set_option maxHeartbeats 3200000 in
theorem walk (a : Option Addr) (cap : Nat) (ts : List M.Tok) (fin : Int) (w : World) (hT : TokAt w (.slice a ts.length cap) ts) (hap : ∀ b o n c, Value.slice a ts.length cap = .slice (some ⟨b, o, none⟩) n c → b < w.heap.size) (hk : ts.length ≤ cap) (hcap : cap ≤ maxLen) (hfew : ts.length ≤ 4398046511000) :
    Calls Tryz.prog 3 #[.slice a ts.length cap, .int .i64 fin] w fun e w' => e = .returned (.bool true) ∧ Below w.heap.size w w' := by
  obtain ⟨p, x, y, H⟩ : ∃ p x y, Hid (M.readR ts fin = (p, (x, y))) := ⟨_, _, _, rfl⟩
  go_enter Tryz.func3, Tryz.ntmps3
  go_wp2_with fail
  refine (read_any _ ts fin _ hT hap (fun a' n c e => by simp only [Value.slice.injEq] at e; obtain ⟨_, rfl, rfl⟩ := e; exact ⟨hk, hcap⟩) (by omega)).mono ?_
  rintro e w1 ⟨hbw1, vf, rfl, hP0⟩
  rw [H.out] at hP0 ⊢
  obtain ⟨b1, c1, rfl⟩ : ∃ a c, vf = .slice a p.length c := by obtain ⟨_, h1, _⟩ := hP0; exact SlAt.form h1
  have hP1 : ProgAt w1 NoX (.slice b1 p.length c1) p := hP0.weak fun _ _ _ h => h
  clear hP0
  simp only
  go_wp2_with fail
  refine (rread_any _ _ ts fin _ (hT.keep (hbw1.trans ((below_two _ _).mono hbw1.size))) hfew).mono ?_
  rintro e w2 ⟨hb, vf, rfl, hP0⟩
  rw [H.out] at hP0 ⊢
  obtain ⟨b2, c2, rfl⟩ : ∃ a c, vf = .slice a p.length c := by obtain ⟨_, h1, _⟩ := hP0; exact SlAt.form h1
  have hP2 : ProgAt w2 NoX (.slice b2 p.length c2) p := hP0.weak fun _ _ _ h => h
  clear hP0
  simp only
  obtain ⟨hA2, hB2, _, hbn⟩ := two_new hb
  have hbw2 := hbw1.trans (hbn.mono hbw1.size)
  have hQ1 := hP1.bel hbn
  clear hP1 hb hbn
  go_wp2_with fail
  refine (fixed_any _).mono ?_
  rintro e w3 ⟨rfl, hb⟩
  obtain ⟨hC3, hD3, _, hbn⟩ := two_new hb
  have hA3 := kept hbn hA2
  have hB3 := kept hbn hB2
  have hbw3 := hbw2.trans (hbn.mono hbw2.size)
  have hR1 := hQ1.bel hbn
  have hR2 := hP2.bel hbn
  clear hP2 hQ1 hb hbn hA2 hB2
  have k1 := cell0 hA3
  have k2 := cell0 hC3
  go_wp2_with fail
  refine (rsame_eq _ _ _ p hR1 hR2).mono ?_
  rintro e w4 ⟨rfl, hb⟩
  have hbw4 := hbw3.trans (hb.mono hbw3.size)
  obtain ⟨g0, g1, gf, gz⟩ := cells2 (kept hb hB3)
  obtain ⟨m0, m1, mf, mz'⟩ := cells2 (kept hb hD3)
  clear hb k1 k2
  go_wp2_with fail
  go_ret
  exact ⟨rfl, hbw4⟩
end ParseReads
end Go.Proofs.YtkonkdhoakcmdaaGreatDoor
