/-
  The walk of demote.Age: what it answers lies in new blocks. Conditions: states of at most 50000 of each thing.
-/
import Derived.Test.YtbaaeobdjiglgaaGreatE15
import Derived.Test.YtbaaeobdjiglgaaGreatE12
import Derived.Test.YtbaaeobdjiglgaaGreatE13
import Derived.Test.YtbaaeobdjiglgaaGreatS13
import Derived.Deep.DeepCutAuto
set_option linter.unusedVariables false
set_option linter.unusedSimpArgs false
namespace Go.Proofs.YtbaaeobdjiglgaaGreat
open Go.RowKit Go.Sort
namespace M
theorem smSt_renamed {K : Nat} {s : Sta} (h : SmSt K s) (k : Int) : SmSt K (renamedSt s k) := by
  refine ⟨?_, fun z hz => ?_, ?_, fun z hz => ?_⟩
  · show (agedV s.vs k).length ≤ K
    unfold agedV
    rw [List.length_map]; exact h.vl
  · have hz : z ∈ agedV s.vs k := hz
    obtain ⟨y, hy, rfl⟩ := List.mem_map.1 hz
    exact Nat.le_trans (rename_length _ _) (h.vv y hy)
  · show (dropL s.ls k).length ≤ K
    unfold dropL
    rw [List.length_map]
    exact Nat.le_trans (List.length_filter_le _ _) h.ll
  · have hz : z ∈ dropL s.ls k := hz
    obtain ⟨y, hy, rfl⟩ := List.mem_map.1 hz
    exact sm_ren (h.lv y (List.mem_filter.1 hy).1) k
theorem smSt_loc {K : Nat} {s : Sta} (h : SmSt K s) {x : Atm} {p : Shp} (e : getK s.ls x = some p) : Sm K p := h.lv _ (getK_mem e)
theorem get_ren5 {s r : Sta} {k : Int} (hr : renamedSt s k = r) : getK r.ls ⟨5, k⟩ = (getK s.ls ⟨5, k⟩).map (renS · k) := by
  rw [← hr]
  show getK (dropL s.ls k) _ = _
  rw [get_dropL, if_neg (ne45 k)]
theorem age_put {s r : Sta} {k : Int} {o q : Shp} (h : MaySt s) (hk : 0 ≤ k) (e : getK s.ls ⟨4, k⟩ = some o) (hr : renamedSt s k = r) (hq : q = locJ (some (renS o k)) (getK r.ls ⟨5, k⟩)) :
    (if maySt r && (placeB ⟨5, k⟩ && mayS q) then putS r ⟨5, k⟩ q else zeroSt) = ageSt s k := by
  have hm : mayS q = true := by
    rw [hq]
    refine may_locJ (q := zeroS) (o := getK r.ls ⟨5, k⟩) (may_renS (h.lm _ _ e).2 k) fun x hx => ?_
    rw [get_ren5 hr] at hx
    obtain ⟨y, hy, rfl⟩ := map_some hx
    exact may_renS (h.lm _ _ hy).2 k
  have hmr : maySt r = true := by rw [← hr]; exact (maySt_iff _).2 (may_renamedSt h k)
  rw [hmr, (place45 hk).2, hm]
  show putS r ⟨5, k⟩ q = _
  unfold ageSt
  rw [e]
  show _ = putS (renamedSt s k) ⟨5, k⟩ _
  rw [hq, get_ren5 hr, hr]
end M
theorem M.join_if' {a b : M.Shp} (ha : M.mayS a = true) (hb : M.mayS b = true) : (if M.mayS a && M.mayS b then M.joinS a b else M.zeroS) = M.joinS a b := by rw [ha, hb]; rfl
theorem inR_atm {k : Int} (h : InR k) (a : Int) : InR (⟨a, k⟩ : M.Atm).n := h

set_option maxHeartbeats 4000000 in
set_option maxRecDepth 100000 in
theorem age_any (w : World) (v : Value) (s : M.Sta) (k : Int) (h : StAt w v s) (hk : InR k) (hK : M.SmSt 50000 s) :
    Calls Tryz.prog 11 #[v, .int .i64 k] w fun e w' => ∃ v', e = .returned v' ∧ StFr w.heap.size w' v' (if decide (0 ≤ k) && M.maySt s then M.ageSt s k else M.zeroSt) ∧ Below w.heap.size w w' := by
  have mixed := mixedP
  obtain ⟨res, hres⟩ : ∃ r, (if decide (0 ≤ k) && M.maySt s then M.ageSt s k else M.zeroSt) = r := ⟨_, rfl⟩
  rw [hres]
  have HRES := hid hres
  clear hres
  obtain ⟨a, c, b, d, rfl⟩ := h.form
  have TS := hid h
  have HK := hid hK
  have HK1 := hid (M.smSt_mono hK (L := 100000) (by decide))
  have HKR := hid (M.smSt_renamed hK k)
  have HIR := hid hk
  clear h hK hk
  obtain ⟨A1, hA1⟩ : ∃ o, (.cells #[.bool s.dead, .slice a s.vs.length c, .slice b s.ls.length d] 25 : Obj) = o := ⟨_, rfl⟩
  obtain ⟨A2, hA2⟩ : ∃ o, (.cells #[.bool false, .slice none 0 0, .slice none 0 0] 25 : Obj) = o := ⟨_, rfl⟩
  obtain ⟨W0, hW0⟩ : ∃ W0, (w.alloc A1).alloc A2 = W0 := ⟨_, rfl⟩
  have b1 := (gr_new w A1).below
  have b2 := (gr_new (w.alloc A1) A2).below
  have p3 : W0.heap[w.heap.size]? = some A1 := by rw [← hW0]; exact kept (B := (w.alloc A1).heap.size) (new_at w A1) (by simp) b2
  have p4 : W0.heap[w.heap.size + 1]? = some A2 := by
    rw [← hW0]
    have := new_at (w.alloc A1) A2
    rw [World.size_alloc] at this
    exact this
  have hz : w.heap.size + 2 = W0.heap.size := by rw [← hW0]; simp
  have B0 : Hid (Below w.heap.size w W0) := by unfold Hid; rw [← hW0]; exact b1.trans (b2.mono b1.size)
  rw [← hA1] at p3
  rw [← hA2] at p4
  subst hA1 hA2
  have P1 := hid p3
  have P2 := hid p4
  obtain ⟨x1, x2, x3, _⟩ := cells3 p3
  clear b1 b2 p3
  by_cases hneg : k < 0
  · have hd : decide (k < 0) = true := decide_eq_true hneg
    obtain ⟨z1, z2, z3, zf⟩ := cells3 p4
    have HN : Hid (decide (0 ≤ k) = false) := decide_eq_false (by omega)
    go_enter Tryz.func11, Tryz.ntmps11
    go_wp2
    refine bodyPost_ret (v := .agg #[.bool false, .slice none 0 0, .slice none 0 0]) (by simp [results, Tryz.results11, go_sem, z1, z2, z3]) rfl ?_
    refine ⟨_, rfl, ?_, set3k B0.out (by omega) _ _ _⟩
    rw [← HRES.out, HN.out]
    exact stAt_zero _
  have hd : decide (k < 0) = false := decide_eq_false hneg
  have HP : Hid (0 ≤ k) := by unfold Hid; omega
  have HN : Hid (decide (0 ≤ k) = true) := decide_eq_true HP.out
  clear p4
  have KA := smay_any W0 _ s (TS.out.bel B0.out) HK1.out
  cases hms : M.maySt s with
  | false =>
    rw [hms] at KA
    have HKA := hid KA
    have MS := hid hms
    clear KA hms
    go_enter Tryz.func11, Tryz.ntmps11
    go_wp2_with (go_at_call 30; refine stopHere ?_)
    refine stopAt ?_
    refine HKA.out.mono ?_
    rintro e w1 ⟨rfl, hb1⟩
    clear hW0 x1 x2 x3
    obtain ⟨z1, z2, z3, zf⟩ := cells3 (kept P2.out (by omega) hb1)
    go_wp2
    refine bodyPost_ret (v := .agg #[.bool false, .slice none 0 0, .slice none 0 0]) (by simp [results, Tryz.results11, go_sem, z1, z2, z3]) rfl ?_
    refine ⟨_, rfl, ?_, set3k (B0.out.trans (hb1.mono B0.out.size)) (by omega) _ _ _⟩
    rw [← HRES.out, HN.out, MS.out]
    exact stAt_zero _
  | true =>
    rw [hms] at KA
    have HKA := hid KA
    have MS := hid hms
    have HM := hid ((M.maySt_iff s).1 hms)
    clear KA hms
    go_enter Tryz.func11, Tryz.ntmps11
    go_wp2_with (go_at_call 30; refine stopHere ?_)
    refine stopAt ?_
    refine HKA.out.mono ?_
    rintro e w1 ⟨rfl, hb1⟩
    clear hW0 x1 x2 x3 HKA
    have B1 : Hid (Below w.heap.size w w1) := B0.out.trans (hb1.mono B0.out.size)
    have hz1 : W0.heap.size ≤ w1.heap.size := hb1.size
    have Q1 := hid (kept P1.out (by omega) hb1)
    have Q2 := hid (kept P2.out (by omega) hb1)
    clear hb1 P1 P2
    obtain ⟨x1, x2, x3, _⟩ := cells3 Q1.out
    have KR := hid (drenamed_any w1 _ s k (TS.out.bel B1.out) HK1.out HM.out)
    go_wp2_with (go_at_call 31; refine stopHere ?_)
    refine stopAt ?_
    refine KR.out.mono ?_
    rintro e w2 ⟨v2, rfl, hF2, hb2⟩
    clear x1 x2 x3 KR
    obtain ⟨r, hr⟩ : ∃ r, M.renamedSt s k = r := ⟨_, rfl⟩
    have HKR' := HKR.out
    have hMR := M.may_renamedSt HM.out k
    rw [hr] at hF2 HKR' hMR
    have HR := hid hr
    have HKR2 := hid HKR'
    have HMR := hid hMR
    obtain ⟨qa, ca, qb, cb, rfl⟩ := StAt.form (StFr.at hF2)
    have B2 : Hid (Below w.heap.size w w2) := B1.out.trans (hb2.mono B1.out.size)
    have hz2 : w1.heap.size ≤ w2.heap.size := hb2.size
    have R1 := hid (kept Q1.out (by omega) hb2)
    have R2 := hid (kept Q2.out (by omega) hb2)
    obtain ⟨W3, hW3⟩ : ∃ W, w2.alloc (.cells #[.bool r.dead, .slice qa r.vs.length ca, .slice qb r.ls.length cb] 25) = W := ⟨_, rfl⟩
    have hb3 : Below w2.heap.size w2 W3 := by rw [← hW3]; exact (gr_new _ _).below
    have hz3 : w2.heap.size < W3.heap.size := by rw [← hW3]; simp
    have S5 : Hid (W3.heap[w2.heap.size]? = some (.cells #[.bool r.dead, .slice qa r.vs.length ca, .slice qb r.ls.length cb] 25 (0, 0))) := by unfold Hid; rw [← hW3]; exact new_at _ _
    have S1 := hid (kept R1.out (by omega) hb3)
    have S2 := hid (kept R2.out (by omega) hb3)
    have F3 := hid (hF2.bel hb3)
    have B3 : Hid (Below w.heap.size w W3) := B2.out.trans (hb3.mono B2.out.size)
    have HW3 := hid hW3
    clear hW3 hb3 hF2 hb2 R1 R2 Q1 Q2 hr hMR HKR' HKR
    go_wp2_with fail
    rw [HW3.out]
    clear HW3
    obtain ⟨t4, ht4⟩ : ∃ t, M.getK s.ls ⟨4, k⟩ = t := ⟨_, rfl⟩
    have HT4 := hid ht4
    have KN : Hid (∀ W, Below W3.heap.size W3 W → Calls Tryz.prog 33 #[.int .i64 k] W fun e w' => e = .returned (.agg #[.int .i64 4, .int .i64 k]) ∧ Below W.heap.size W w') := fun W hb => newest_any k W
    have KL : Hid (∀ W, Below W3.heap.size W3 W → Calls Tryz.prog 32 #[.agg #[.bool s.dead, .slice a s.vs.length c, .slice b s.ls.length d], .agg #[.int .i64 4, .int .i64 k]] W fun e w' => ∃ v', e = .returned (.tuple #[v', .bool t4.isSome]) ∧ ShFr W.heap.size w' v' (t4.getD M.zeroS) ∧ Below W.heap.size W w') := fun W hb => by
      have h1 := sloc_any W _ s ⟨4, k⟩ ((TS.out.bel B3.out).bel hb) HK1.out
      rw [ht4] at h1
      exact h1
    clear ht4
    have hl1 : w.heap.size < W3.heap.size := by omega
    have hl5 : w2.heap.size < W3.heap.size := by omega
    go_cut [6, 7] (fun s6 s7 wx => ∃ (g6 : Nat) (f6 : Option Addr) (n6 : Nat) (p6 : Option Addr) (m6 : Nat), s6 = .pointer (some ⟨g6, 0, none⟩) ∧ s7 = .bool t4.isSome ∧ Hid (wx.heap[g6]? = some (.cells #[.slice f6 (t4.getD M.zeroS).fs.length n6, .slice p6 (t4.getD M.zeroS).pr.length m6] 31 (0, 0))) ∧ W3.heap.size ≤ g6 ∧ Hid (ShAt wx (.agg #[.slice f6 (t4.getD M.zeroS).fs.length n6, .slice p6 (t4.getD M.zeroS).pr.length m6]) (t4.getD M.zeroS)) ∧ Hid (Below W3.heap.size W3 wx))
    case first =>
      have KH : Hid (∀ Z : World, Z.heap[w.heap.size]? = some (.cells #[.bool s.dead, .slice a s.vs.length c, .slice b s.ls.length d] 25 (0, 0)) → (Z.cell? ⟨w.heap.size, 0, none⟩ = some (.bool s.dead) ∧ Z.cell? ⟨w.heap.size, 1, none⟩ = some (.slice a s.vs.length c) ∧ Z.cell? ⟨w.heap.size, 2, none⟩ = some (.slice b s.ls.length d))) := fun Z k0 => by
        obtain ⟨y00, y01, y02, _⟩ := cells3 k0
        exact ⟨y00, y01, y02⟩
      refine wp_region_held_drew (S := fun W => W.cell? ⟨w.heap.size, 0, none⟩ = some (.bool s.dead) ∧ W.cell? ⟨w.heap.size, 1, none⟩ = some (.slice a s.vs.length c) ∧ W.cell? ⟨w.heap.size, 2, none⟩ = some (.slice b s.ls.length d)) (by kernel_rfl) (KH.out _ S1.out) (fun hHeld => ?_)
      have Bh0 : Hid (Below W3.heap.size W3 W3.drew) := (Gr.refl W3).drew.below
      refine tk 0 ⟨some 22, .load 25 (.tmp 2), 25, "demote.go:17", #[], none⟩ (v := ?_) hHeld ?_ ?_
      rotate_left
      · intro w hSw; (try dsimp only at hSw); go_simp; (try with_reducible rfl)
      simp only [Act.put, List.setIfInBounds_toArray, List.set_cons_zero, List.set_cons_succ]
      refine tk 1 ⟨some 23, .move (.tmp 1), 3, "demote.go:17", #[], none⟩ (v := ?_) hHeld ?_ ?_
      rotate_left
      · intro w hSw; (try dsimp only at hSw); go_simp; (try with_reducible rfl)
      simp only [Act.put, List.setIfInBounds_toArray, List.set_cons_zero, List.set_cons_succ]
      refine wpAnyH_ready (rs := [2, 7]) (by kernel_rfl) (by simp) ?_
      refine AllReadyH.cons (o := ⟨some 24, .call { callee := .value (.func 33), args := #[.tmp 23], argTypes := #[3] }, 34, "demote.go:17", #[⟨1, .data⟩], none⟩) rfl (fun K hK => ?_) (AllReadyH.cons (o := ⟨some 6, .alloc 31, 0, "demote.go:17", #[], none⟩) rfl (fun K hK => ?_) AllReadyH.nil)
      · go_simp
        refine (KN.out _ Bh0.out).mono ?_
        rintro e z1 ⟨rfl, hb⟩
        have Bh1 := hid (Bh0.out.trans (hb.mono Bh0.out.size))
        clear hb
        refine hK.out _ _ (KH.out _ (kept S1.out hl1 Bh1.out)) (fun hHeld => ?_)
        clear hK
        refine wpAnyH_ready (rs := [3, 7]) (by kernel_rfl) (by simp) ?_
        refine AllReadyH.cons (o := ⟨some 25, .call { callee := .value (.func 32), args := #[.tmp 22, .tmp 24], argTypes := #[25, 34] }, 50, "demote.go:17", #[⟨0, .data⟩, ⟨2, .data⟩, ⟨2, .chain⟩], none⟩) rfl (fun K hK => ?_) (AllReadyH.cons (o := ⟨some 6, .alloc 31, 0, "demote.go:17", #[], none⟩) rfl (fun K hK => ?_) AllReadyH.nil)
        · go_simp
          refine (KL.out _ Bh1.out).mono ?_
          rintro e z2 ⟨v2, rfl, hS2, hb⟩
          obtain ⟨f2, n2, p2, m2, rfl⟩ := ShAt.form (ShFr.at hS2)
          have HS2 := hid hS2
          clear hS2
          have Bh2 := hid (Bh1.out.trans (hb.mono Bh1.out.size))
          clear hb
          refine hK.out _ _ (KH.out _ (kept S1.out hl1 Bh2.out)) (fun hHeld => ?_)
          clear hK
          refine tk 4 ⟨some 21, .move (.tmp 25), 50, "demote.go:17", #[⟨3, .data⟩], none⟩ (v := ?_) hHeld ?_ ?_
          rotate_left
          · intro w hSw; (try dsimp only at hSw); go_simp; (try with_reducible rfl)
          simp only [Act.put, List.setIfInBounds_toArray, List.set_cons_zero, List.set_cons_succ]
          refine tk 5 ⟨some 26, .extract (.tmp 21) 0, 31, "demote.go:17", #[⟨4, .data⟩], none⟩ (v := ?_) hHeld ?_ ?_
          rotate_left
          · intro w hSw; (try dsimp only at hSw); go_simp; (try with_reducible rfl)
          simp only [Act.put, List.setIfInBounds_toArray, List.set_cons_zero, List.set_cons_succ]
          refine tk 6 ⟨some 27, .extract (.tmp 21) 1, 4, "demote.go:17", #[⟨4, .data⟩, ⟨8, .gcOnly .lateStores⟩], none⟩ (v := ?_) hHeld ?_ ?_
          rotate_left
          · intro w hSw; (try dsimp only at hSw); go_simp; (try with_reducible rfl)
          simp only [Act.put, List.setIfInBounds_toArray, List.set_cons_zero, List.set_cons_succ]
          refine wpAnyH_ready (rs := [7]) (by kernel_rfl) (by simp) ?_
          refine AllReadyH.cons (o := ⟨some 6, .alloc 31, 0, "demote.go:17", #[], none⟩) rfl (fun K hK => ?_) AllReadyH.nil
          obtain ⟨z3, hz3⟩ : ∃ W, z2.alloc (.cells #[.slice none 0 0, .slice none 0 0] 31 : Obj) = W := ⟨_, rfl⟩
          go_simp
          have hb : Below z2.heap.size z2 z3 := by rw [← hz3]; exact (gr_new _ _).below
          have BX3 : Hid (z3.heap[z2.heap.size]? = some (.cells #[.slice none 0 0, .slice none 0 0] 31 (0, 0))) := by unfold Hid; rw [← hz3]; exact new_at _ _
          have gBX : W3.heap.size ≤ z2.heap.size := Bh2.out.size
          have Bh3 := hid (Bh2.out.trans (hb.mono Bh2.out.size))
          have SH3 := hid ((ShFr.at HS2.out).bel hb)
          clear hb hz3
          refine hK.out _ _ (KH.out _ (kept S1.out hl1 Bh3.out)) (fun hHeld => ?_)
          clear hK
          refine wpAnyH_ready (rs := [8]) (by kernel_rfl) (by simp) ?_
          refine AllReadyH.cons (o := ⟨none, .store 31 (.tmp 6) (.tmp 26), 0, "demote.go:17", #[⟨7, .data⟩, ⟨5, .data⟩, ⟨3, .chain⟩, ⟨0, .phase⟩, ⟨1, .phase⟩, ⟨2, .phase⟩, ⟨3, .phase⟩, ⟨4, .phase⟩, ⟨5, .phase⟩, ⟨6, .textOnly .lateStores⟩, ⟨7, .phase⟩], none⟩) rfl (fun K hK => ?_) AllReadyH.nil
          obtain ⟨o0, o1, of⟩ := cells2 (BX3.out)
          go_simp
          clear o0 o1 of
          refine hK.out _ _ (KH.out _ (((set_blk (z3.setCell ⟨z2.heap.size, 0, none⟩ (.slice f2 (t4.getD M.zeroS).fs.length n2)) (z2.heap.size) 1 (.slice p2 (t4.getD M.zeroS).pr.length m2) (w.heap.size) (by omega)).trans ((set_blk z3 (z2.heap.size) 0 (.slice f2 (t4.getD M.zeroS).fs.length n2) (w.heap.size) (by omega)).trans (kept S1.out hl1 Bh3.out))))) (fun hHeld => ?_)
          clear hK
          refine tk 9 ⟨some 7, .assign (.tmp 27), 4, "demote.go:17", #[⟨6, .data⟩, ⟨8, .chain⟩, ⟨0, .phase⟩, ⟨1, .phase⟩, ⟨2, .phase⟩, ⟨3, .phase⟩, ⟨4, .phase⟩, ⟨5, .phase⟩, ⟨6, .phase⟩, ⟨7, .phase⟩, ⟨8, .phase⟩], none⟩ (v := ?_) hHeld ?_ ?_
          rotate_left
          · intro w hSw; (try dsimp only at hSw); go_simp; (try with_reducible rfl)
          simp only [Act.put, List.setIfInBounds_toArray, List.set_cons_zero, List.set_cons_succ]
          refine wpAnyH_done (by kernel_rfl) ?_ _
          clear hHeld KH
          go_wp2_with fail
          go_meet
          exact ⟨z2.heap.size, f2, n2, p2, m2, rfl, rfl, hid (box_set2 (BX3.out) _ _), gBX, hid (ShAt.off2 SH3.out (BX3.out) _ _), hid ((Bh3.out.setCell (p := ⟨z2.heap.size, 0, none⟩) gBX _).setCell (p := ⟨z2.heap.size, 1, none⟩) gBX _)⟩
        · obtain ⟨z5, hz5⟩ : ∃ W, z1.alloc (.cells #[.slice none 0 0, .slice none 0 0] 31 : Obj) = W := ⟨_, rfl⟩
          go_simp
          have hb : Below z1.heap.size z1 z5 := by rw [← hz5]; exact (gr_new _ _).below
          have BX5 : Hid (z5.heap[z1.heap.size]? = some (.cells #[.slice none 0 0, .slice none 0 0] 31 (0, 0))) := by unfold Hid; rw [← hz5]; exact new_at _ _
          have gBX : W3.heap.size ≤ z1.heap.size := Bh1.out.size
          have Bh5 := hid (Bh1.out.trans (hb.mono Bh1.out.size))
          clear hb hz5
          refine hK.out _ _ (KH.out _ (kept S1.out hl1 Bh5.out)) (fun hHeld => ?_)
          clear hK
          refine wpAnyH_ready (rs := [3]) (by kernel_rfl) (by simp) ?_
          refine AllReadyH.cons (o := ⟨some 25, .call { callee := .value (.func 32), args := #[.tmp 22, .tmp 24], argTypes := #[25, 34] }, 50, "demote.go:17", #[⟨0, .data⟩, ⟨2, .data⟩, ⟨2, .chain⟩], none⟩) rfl (fun K hK => ?_) AllReadyH.nil
          go_simp
          refine (KL.out _ Bh5.out).mono ?_
          rintro e z6 ⟨v6, rfl, hS6, hb⟩
          obtain ⟨f6, n6, p6, m6, rfl⟩ := ShAt.form (ShFr.at hS6)
          have HS6 := hid hS6
          clear hS6
          have Bh6 := hid (Bh5.out.trans (hb.mono Bh5.out.size))
          have BX6 := hid (bx_bel BX5.out hb)
          clear hb
          refine hK.out _ _ (KH.out _ (kept S1.out hl1 Bh6.out)) (fun hHeld => ?_)
          clear hK
          refine tk 4 ⟨some 21, .move (.tmp 25), 50, "demote.go:17", #[⟨3, .data⟩], none⟩ (v := ?_) hHeld ?_ ?_
          rotate_left
          · intro w hSw; (try dsimp only at hSw); go_simp; (try with_reducible rfl)
          simp only [Act.put, List.setIfInBounds_toArray, List.set_cons_zero, List.set_cons_succ]
          refine tk 5 ⟨some 26, .extract (.tmp 21) 0, 31, "demote.go:17", #[⟨4, .data⟩], none⟩ (v := ?_) hHeld ?_ ?_
          rotate_left
          · intro w hSw; (try dsimp only at hSw); go_simp; (try with_reducible rfl)
          simp only [Act.put, List.setIfInBounds_toArray, List.set_cons_zero, List.set_cons_succ]
          refine tk 6 ⟨some 27, .extract (.tmp 21) 1, 4, "demote.go:17", #[⟨4, .data⟩, ⟨8, .gcOnly .lateStores⟩], none⟩ (v := ?_) hHeld ?_ ?_
          rotate_left
          · intro w hSw; (try dsimp only at hSw); go_simp; (try with_reducible rfl)
          simp only [Act.put, List.setIfInBounds_toArray, List.set_cons_zero, List.set_cons_succ]
          refine wpAnyH_ready (rs := [8]) (by kernel_rfl) (by simp) ?_
          refine AllReadyH.cons (o := ⟨none, .store 31 (.tmp 6) (.tmp 26), 0, "demote.go:17", #[⟨7, .data⟩, ⟨5, .data⟩, ⟨3, .chain⟩, ⟨0, .phase⟩, ⟨1, .phase⟩, ⟨2, .phase⟩, ⟨3, .phase⟩, ⟨4, .phase⟩, ⟨5, .phase⟩, ⟨6, .textOnly .lateStores⟩, ⟨7, .phase⟩], none⟩) rfl (fun K hK => ?_) AllReadyH.nil
          obtain ⟨o0, o1, of⟩ := cells2 (BX6.out)
          go_simp
          clear o0 o1 of
          refine hK.out _ _ (KH.out _ (((set_blk (z6.setCell ⟨z1.heap.size, 0, none⟩ (.slice f6 (t4.getD M.zeroS).fs.length n6)) (z1.heap.size) 1 (.slice p6 (t4.getD M.zeroS).pr.length m6) (w.heap.size) (by omega)).trans ((set_blk z6 (z1.heap.size) 0 (.slice f6 (t4.getD M.zeroS).fs.length n6) (w.heap.size) (by omega)).trans (kept S1.out hl1 Bh6.out))))) (fun hHeld => ?_)
          clear hK
          refine tk 9 ⟨some 7, .assign (.tmp 27), 4, "demote.go:17", #[⟨6, .data⟩, ⟨8, .chain⟩, ⟨0, .phase⟩, ⟨1, .phase⟩, ⟨2, .phase⟩, ⟨3, .phase⟩, ⟨4, .phase⟩, ⟨5, .phase⟩, ⟨6, .phase⟩, ⟨7, .phase⟩, ⟨8, .phase⟩], none⟩ (v := ?_) hHeld ?_ ?_
          rotate_left
          · intro w hSw; (try dsimp only at hSw); go_simp; (try with_reducible rfl)
          simp only [Act.put, List.setIfInBounds_toArray, List.set_cons_zero, List.set_cons_succ]
          refine wpAnyH_done (by kernel_rfl) ?_ _
          clear hHeld KH
          go_wp2_with fail
          go_meet
          exact ⟨z1.heap.size, f6, n6, p6, m6, rfl, rfl, hid (box_set2 (BX6.out) _ _), gBX, hid (ShAt.off2 (ShFr.at HS6.out) (BX6.out) _ _), hid ((Bh6.out.setCell (p := ⟨z1.heap.size, 0, none⟩) gBX _).setCell (p := ⟨z1.heap.size, 1, none⟩) gBX _)⟩
      · obtain ⟨z8, hz8⟩ : ∃ W, W3.drew.alloc (.cells #[.slice none 0 0, .slice none 0 0] 31 : Obj) = W := ⟨_, rfl⟩
        go_simp
        have hb : Below W3.drew.heap.size W3.drew z8 := by rw [← hz8]; exact (gr_new _ _).below
        have BX8 : Hid (z8.heap[W3.heap.size]? = some (.cells #[.slice none 0 0, .slice none 0 0] 31 (0, 0))) := by unfold Hid; rw [← hz8]; exact new_at _ _
        have gBX : W3.heap.size ≤ W3.heap.size := Bh0.out.size
        have Bh8 := hid (Bh0.out.trans (hb.mono Bh0.out.size))
        clear hb hz8
        refine hK.out _ _ (KH.out _ (kept S1.out hl1 Bh8.out)) (fun hHeld => ?_)
        clear hK
        refine wpAnyH_ready (rs := [2]) (by kernel_rfl) (by simp) ?_
        refine AllReadyH.cons (o := ⟨some 24, .call { callee := .value (.func 33), args := #[.tmp 23], argTypes := #[3] }, 34, "demote.go:17", #[⟨1, .data⟩], none⟩) rfl (fun K hK => ?_) AllReadyH.nil
        go_simp
        refine (KN.out _ Bh8.out).mono ?_
        rintro e z9 ⟨rfl, hb⟩
        have Bh9 := hid (Bh8.out.trans (hb.mono Bh8.out.size))
        have BX9 := hid (bx_bel BX8.out hb)
        clear hb
        refine hK.out _ _ (KH.out _ (kept S1.out hl1 Bh9.out)) (fun hHeld => ?_)
        clear hK
        refine wpAnyH_ready (rs := [3]) (by kernel_rfl) (by simp) ?_
        refine AllReadyH.cons (o := ⟨some 25, .call { callee := .value (.func 32), args := #[.tmp 22, .tmp 24], argTypes := #[25, 34] }, 50, "demote.go:17", #[⟨0, .data⟩, ⟨2, .data⟩, ⟨2, .chain⟩], none⟩) rfl (fun K hK => ?_) AllReadyH.nil
        go_simp
        refine (KL.out _ Bh9.out).mono ?_
        rintro e z10 ⟨v10, rfl, hS10, hb⟩
        obtain ⟨f10, n10, p10, m10, rfl⟩ := ShAt.form (ShFr.at hS10)
        have HS10 := hid hS10
        clear hS10
        have Bh10 := hid (Bh9.out.trans (hb.mono Bh9.out.size))
        have BX10 := hid (bx_bel BX9.out hb)
        clear hb
        refine hK.out _ _ (KH.out _ (kept S1.out hl1 Bh10.out)) (fun hHeld => ?_)
        clear hK
        refine tk 4 ⟨some 21, .move (.tmp 25), 50, "demote.go:17", #[⟨3, .data⟩], none⟩ (v := ?_) hHeld ?_ ?_
        rotate_left
        · intro w hSw; (try dsimp only at hSw); go_simp; (try with_reducible rfl)
        simp only [Act.put, List.setIfInBounds_toArray, List.set_cons_zero, List.set_cons_succ]
        refine tk 5 ⟨some 26, .extract (.tmp 21) 0, 31, "demote.go:17", #[⟨4, .data⟩], none⟩ (v := ?_) hHeld ?_ ?_
        rotate_left
        · intro w hSw; (try dsimp only at hSw); go_simp; (try with_reducible rfl)
        simp only [Act.put, List.setIfInBounds_toArray, List.set_cons_zero, List.set_cons_succ]
        refine tk 6 ⟨some 27, .extract (.tmp 21) 1, 4, "demote.go:17", #[⟨4, .data⟩, ⟨8, .gcOnly .lateStores⟩], none⟩ (v := ?_) hHeld ?_ ?_
        rotate_left
        · intro w hSw; (try dsimp only at hSw); go_simp; (try with_reducible rfl)
        simp only [Act.put, List.setIfInBounds_toArray, List.set_cons_zero, List.set_cons_succ]
        refine wpAnyH_ready (rs := [8]) (by kernel_rfl) (by simp) ?_
        refine AllReadyH.cons (o := ⟨none, .store 31 (.tmp 6) (.tmp 26), 0, "demote.go:17", #[⟨7, .data⟩, ⟨5, .data⟩, ⟨3, .chain⟩, ⟨0, .phase⟩, ⟨1, .phase⟩, ⟨2, .phase⟩, ⟨3, .phase⟩, ⟨4, .phase⟩, ⟨5, .phase⟩, ⟨6, .textOnly .lateStores⟩, ⟨7, .phase⟩], none⟩) rfl (fun K hK => ?_) AllReadyH.nil
        obtain ⟨o0, o1, of⟩ := cells2 (BX10.out)
        go_simp
        clear o0 o1 of
        refine hK.out _ _ (KH.out _ (((set_blk (z10.setCell ⟨W3.heap.size, 0, none⟩ (.slice f10 (t4.getD M.zeroS).fs.length n10)) (W3.heap.size) 1 (.slice p10 (t4.getD M.zeroS).pr.length m10) (w.heap.size) (by omega)).trans ((set_blk z10 (W3.heap.size) 0 (.slice f10 (t4.getD M.zeroS).fs.length n10) (w.heap.size) (by omega)).trans (kept S1.out hl1 Bh10.out))))) (fun hHeld => ?_)
        clear hK
        refine tk 9 ⟨some 7, .assign (.tmp 27), 4, "demote.go:17", #[⟨6, .data⟩, ⟨8, .chain⟩, ⟨0, .phase⟩, ⟨1, .phase⟩, ⟨2, .phase⟩, ⟨3, .phase⟩, ⟨4, .phase⟩, ⟨5, .phase⟩, ⟨6, .phase⟩, ⟨7, .phase⟩, ⟨8, .phase⟩], none⟩ (v := ?_) hHeld ?_ ?_
        rotate_left
        · intro w hSw; (try dsimp only at hSw); go_simp; (try with_reducible rfl)
        simp only [Act.put, List.setIfInBounds_toArray, List.set_cons_zero, List.set_cons_succ]
        refine wpAnyH_done (by kernel_rfl) ?_ _
        clear hHeld KH
        go_wp2_with fail
        go_meet
        exact ⟨W3.heap.size, f10, n10, p10, m10, rfl, rfl, hid (box_set2 (BX10.out) _ _), gBX, hid (ShAt.off2 (ShFr.at HS10.out) (BX10.out) _ _), hid ((Bh10.out.setCell (p := ⟨W3.heap.size, 0, none⟩) gBX _).setCell (p := ⟨W3.heap.size, 1, none⟩) gBX _)⟩
    case rest =>
      obtain ⟨g6, f6, n6, p6, m6, rfl, rfl, hbx, hg6, hsh, hbel⟩ := hcut
      clear KN KL
      have hzc := hbel.out.size
      cases t4 with
      | none =>
        obtain ⟨y1, y2, y3, _⟩ := cells3 (kept S5.out hl5 hbel.out)
        obtain ⟨z1, z2, z3, zf⟩ := cells3 (kept S2.out (by omega) hbel.out)
        go_wp2
        refine bodyPost_ret (v := .agg #[.bool r.dead, .slice qa r.vs.length ca, .slice qb r.ls.length cb]) (by simp [results, Tryz.results11, go_sem, z1, z2, z3]) rfl ?_
        refine ⟨_, rfl, ?_, set3k (B3.out.trans (hbel.out.mono B3.out.size)) (by omega) _ _ _⟩
        have hs : r = res := by
          rw [← HRES.out, HN.out, MS.out]
          show _ = M.ageSt s k
          unfold M.ageSt
          rw [HT4.out]
          exact HR.out.symm
        have hfr := F3.out.bel hbel.out
        rw [hs] at hfr ⊢
        exact ((((hfr.set (g := w.heap.size + 1) (by omega)).set (g := w.heap.size + 1) (by omega)).set (g := w.heap.size + 1) (by omega)).mono (by omega))
      | some o =>
        have HO : Hid (M.mayS o = true) := (HM.out.lm _ _ HT4.out).2
        have HSO : Hid (M.Sm 50000 o) := M.smSt_loc HK.out HT4.out
        have hbx : Hid (wc.heap[g6]? = some (.cells #[.slice f6 o.fs.length n6, .slice p6 o.pr.length m6] 31 (0, 0))) := hbx
        have hsh : Hid (ShAt wc (.agg #[.slice f6 o.fs.length n6, .slice p6 o.pr.length m6]) o) := hsh
        have KR := orename_fr wc _ o k hsh.out (M.sm_mono HSO.out (by decide))
        rw [HO.out] at KR
        have HKR := hid KR
        clear KR
        obtain ⟨x1, x2, xf⟩ := cells2 hbx.out
        have hgc : g6 < wc.heap.size := (Array.getElem?_eq_some_iff.1 hbx.out).1
        simp only [Option.getD_some, Option.isSome_some]
        go_wp2_with (go_at_call 34; refine stopHere ?_)
        refine stopAt ?_
        refine HKR.out.mono ?_
        rintro e w7 ⟨v7, rfl, hS7, hb7⟩
        clear x1 x2 xf HKR
        have hS7 : ShFr wc.heap.size w7 v7 (M.renS o k) := hS7
        obtain ⟨f7, n7, p7, m7, rfl⟩ := ShAt.form (ShFr.at hS7)
        have hbx7 := kept hbx.out hgc hb7
        obtain ⟨x1, x2, xf⟩ := cells2 hbx7
        have X8 := hid (box_set2 hbx7 (.slice f7 (M.renS o k).fs.length n7) (.slice p7 (M.renS o k).pr.length m7))
        have H8 : Hid (ShAt ((w7.setCell ⟨g6, 0, none⟩ (.slice f7 (M.renS o k).fs.length n7)).setCell ⟨g6, 1, none⟩ (.slice p7 (M.renS o k).pr.length m7)) (.agg #[.slice f7 (M.renS o k).fs.length n7, .slice p7 (M.renS o k).pr.length m7]) (M.renS o k)) := ShFr.at ((hS7.set (g := g6) hgc).set (g := g6) hgc)
        have hb37 : Below W3.heap.size W3 w7 := hbel.out.trans (hb7.mono hzc)
        have B8 : Hid (Below W3.heap.size W3 ((w7.setCell ⟨g6, 0, none⟩ (.slice f7 (M.renS o k).fs.length n7)).setCell ⟨g6, 1, none⟩ (.slice p7 (M.renS o k).pr.length m7))) := (hb37.setCell (p := ⟨g6, 0, none⟩) hg6 _).setCell (p := ⟨g6, 1, none⟩) hg6 _
        go_wp2_with fail
        clear x1 x2 xf hbx hsh hS7 hb7 hbx7 hb37 hbel hgc hzc
        generalize (w7.setCell ⟨g6, 0, none⟩ (.slice f7 (M.renS o k).fs.length n7)).setCell ⟨g6, 1, none⟩ (.slice p7 (M.renS o k).pr.length m7) = W8 at X8 H8 B8 ⊢
        have hz8 : W3.heap.size ≤ W8.heap.size := B8.out.size
        have T5 := hid (kept S5.out hl5 B8.out)
        have T2 := hid (kept S2.out (by omega) B8.out)
        have F8 := hid (F3.out.bel B8.out)
        have BW8 : Hid (Below w.heap.size w W8) := B3.out.trans (B8.out.mono B3.out.size)
        have hg8 : g6 < W8.heap.size := (Array.getElem?_eq_some_iff.1 X8.out).1
        have hl58 : w2.heap.size < W8.heap.size := by omega
        obtain ⟨t5, ht5⟩ : ∃ t, M.getK r.ls ⟨5, k⟩ = t := ⟨_, rfl⟩
        have HT5 := hid ht5
        have HR1 := hid (M.smSt_mono HKR2.out (L := 100000) (by decide))
        have KO : Hid (∀ W, Below W8.heap.size W8 W → Calls Tryz.prog 35 #[.int .i64 k] W fun e w' => e = .returned (.agg #[.int .i64 5, .int .i64 k]) ∧ Below W.heap.size W w') := fun W hb => older_any k W
        have KL : Hid (∀ W, Below W8.heap.size W8 W → Calls Tryz.prog 32 #[.agg #[.bool r.dead, .slice qa r.vs.length ca, .slice qb r.ls.length cb], .agg #[.int .i64 5, .int .i64 k]] W fun e w' => ∃ v', e = .returned (.tuple #[v', .bool t5.isSome]) ∧ ShFr W.heap.size w' v' (t5.getD M.zeroS) ∧ Below W.heap.size W w') := fun W hb => by
          have h1 := sloc_any W _ r ⟨5, k⟩ ((StFr.at F8.out).bel hb) HR1.out
          rw [ht5] at h1
          exact h1
        have KP : Hid (∀ W q f n p m, Below W3.heap.size W3 W → ShAt W (.agg #[.slice f q.fs.length n, .slice p q.pr.length m]) q → M.Sm 100000 q → q = M.locJ (some (M.renS o k)) t5 → Calls Tryz.prog 37 #[.agg #[.bool r.dead, .slice qa r.vs.length ca, .slice qb r.ls.length cb], .agg #[.int .i64 5, .int .i64 k], .agg #[.slice f q.fs.length n, .slice p q.pr.length m]] W fun e w' => ∃ v', e = .returned v' ∧ StFr W.heap.size w' v' res ∧ Below W.heap.size W w') := fun W q f n p m hb hq hsm he => by
          have h1 := sput_any W _ r ⟨5, k⟩ _ q ((StFr.at F3.out).bel hb) hq HIR.out HR1.out hsm
          rw [M.age_put HM.out HP.out HT4.out HR.out (by rw [HT5.out]; exact he)] at h1
          have hs : M.ageSt s k = res := by rw [← HRES.out, HN.out, MS.out]; rfl
          rw [hs] at h1
          exact h1
        clear ht5
        go_cut [8, 9] (fun s8 s9 wx => ∃ (g9 : Nat) (f9 : Option Addr) (n9 : Nat) (p9 : Option Addr) (m9 : Nat), s8 = .pointer (some ⟨g9, 0, none⟩) ∧ s9 = .bool t5.isSome ∧ Hid (wx.heap[g9]? = some (.cells #[.slice f9 (t5.getD M.zeroS).fs.length n9, .slice p9 (t5.getD M.zeroS).pr.length m9] 31 (0, 0))) ∧ W8.heap.size ≤ g9 ∧ Hid (ShAt wx (.agg #[.slice f9 (t5.getD M.zeroS).fs.length n9, .slice p9 (t5.getD M.zeroS).pr.length m9]) (t5.getD M.zeroS)) ∧ Hid (Below W8.heap.size W8 wx))
        case first =>
          have KH : Hid (∀ Z : World, Z.heap[w2.heap.size]? = some (.cells #[.bool r.dead, .slice qa r.vs.length ca, .slice qb r.ls.length cb] 25 (0, 0)) → (Z.cell? ⟨w2.heap.size, 0, none⟩ = some (.bool r.dead) ∧ Z.cell? ⟨w2.heap.size, 1, none⟩ = some (.slice qa r.vs.length ca) ∧ Z.cell? ⟨w2.heap.size, 2, none⟩ = some (.slice qb r.ls.length cb))) := fun Z k0 => by
            obtain ⟨y00, y01, y02, _⟩ := cells3 k0
            exact ⟨y00, y01, y02⟩
          refine wp_region_held_drew (S := fun W => W.cell? ⟨w2.heap.size, 0, none⟩ = some (.bool r.dead) ∧ W.cell? ⟨w2.heap.size, 1, none⟩ = some (.slice qa r.vs.length ca) ∧ W.cell? ⟨w2.heap.size, 2, none⟩ = some (.slice qb r.ls.length cb)) (by kernel_rfl) (KH.out _ T5.out) (fun hHeld => ?_)
          have Bh0 : Hid (Below W8.heap.size W8 W8.drew) := (Gr.refl W8).drew.below
          refine tk 0 ⟨some 35, .load 25 (.tmp 5), 25, "demote.go:22", #[], none⟩ (v := ?_) hHeld ?_ ?_
          rotate_left
          · intro w hSw; (try dsimp only at hSw); go_simp; (try with_reducible rfl)
          simp only [Act.put, List.setIfInBounds_toArray, List.set_cons_zero, List.set_cons_succ]
          refine tk 1 ⟨some 36, .move (.tmp 1), 3, "demote.go:22", #[], none⟩ (v := ?_) hHeld ?_ ?_
          rotate_left
          · intro w hSw; (try dsimp only at hSw); go_simp; (try with_reducible rfl)
          simp only [Act.put, List.setIfInBounds_toArray, List.set_cons_zero, List.set_cons_succ]
          refine wpAnyH_ready (rs := [2, 7]) (by kernel_rfl) (by simp) ?_
          refine AllReadyH.cons (o := ⟨some 37, .call { callee := .value (.func 35), args := #[.tmp 36], argTypes := #[3] }, 34, "demote.go:22", #[⟨1, .data⟩], none⟩) rfl (fun K hK => ?_) (AllReadyH.cons (o := ⟨some 8, .alloc 31, 0, "demote.go:22", #[], none⟩) rfl (fun K hK => ?_) AllReadyH.nil)
          · go_simp
            refine (KO.out _ Bh0.out).mono ?_
            rintro e z1 ⟨rfl, hb⟩
            have Bh1 := hid (Bh0.out.trans (hb.mono Bh0.out.size))
            clear hb
            refine hK.out _ _ (KH.out _ (kept T5.out hl58 Bh1.out)) (fun hHeld => ?_)
            clear hK
            refine wpAnyH_ready (rs := [3, 7]) (by kernel_rfl) (by simp) ?_
            refine AllReadyH.cons (o := ⟨some 38, .call { callee := .value (.func 32), args := #[.tmp 35, .tmp 37], argTypes := #[25, 34] }, 50, "demote.go:22", #[⟨0, .data⟩, ⟨2, .data⟩, ⟨2, .chain⟩], none⟩) rfl (fun K hK => ?_) (AllReadyH.cons (o := ⟨some 8, .alloc 31, 0, "demote.go:22", #[], none⟩) rfl (fun K hK => ?_) AllReadyH.nil)
            · go_simp
              refine (KL.out _ Bh1.out).mono ?_
              rintro e z2 ⟨v2, rfl, hS2, hb⟩
              obtain ⟨f2, n2, p2, m2, rfl⟩ := ShAt.form (ShFr.at hS2)
              have HS2 := hid hS2
              clear hS2
              have Bh2 := hid (Bh1.out.trans (hb.mono Bh1.out.size))
              clear hb
              refine hK.out _ _ (KH.out _ (kept T5.out hl58 Bh2.out)) (fun hHeld => ?_)
              clear hK
              refine tk 4 ⟨some 34, .move (.tmp 38), 50, "demote.go:22", #[⟨3, .data⟩], none⟩ (v := ?_) hHeld ?_ ?_
              rotate_left
              · intro w hSw; (try dsimp only at hSw); go_simp; (try with_reducible rfl)
              simp only [Act.put, List.setIfInBounds_toArray, List.set_cons_zero, List.set_cons_succ]
              refine tk 5 ⟨some 39, .extract (.tmp 34) 0, 31, "demote.go:22", #[⟨4, .data⟩], none⟩ (v := ?_) hHeld ?_ ?_
              rotate_left
              · intro w hSw; (try dsimp only at hSw); go_simp; (try with_reducible rfl)
              simp only [Act.put, List.setIfInBounds_toArray, List.set_cons_zero, List.set_cons_succ]
              refine tk 6 ⟨some 40, .extract (.tmp 34) 1, 4, "demote.go:22", #[⟨4, .data⟩, ⟨8, .gcOnly .lateStores⟩], none⟩ (v := ?_) hHeld ?_ ?_
              rotate_left
              · intro w hSw; (try dsimp only at hSw); go_simp; (try with_reducible rfl)
              simp only [Act.put, List.setIfInBounds_toArray, List.set_cons_zero, List.set_cons_succ]
              refine wpAnyH_ready (rs := [7]) (by kernel_rfl) (by simp) ?_
              refine AllReadyH.cons (o := ⟨some 8, .alloc 31, 0, "demote.go:22", #[], none⟩) rfl (fun K hK => ?_) AllReadyH.nil
              obtain ⟨z3, hz3⟩ : ∃ W, z2.alloc (.cells #[.slice none 0 0, .slice none 0 0] 31 : Obj) = W := ⟨_, rfl⟩
              go_simp
              have hb : Below z2.heap.size z2 z3 := by rw [← hz3]; exact (gr_new _ _).below
              have BX3 : Hid (z3.heap[z2.heap.size]? = some (.cells #[.slice none 0 0, .slice none 0 0] 31 (0, 0))) := by unfold Hid; rw [← hz3]; exact new_at _ _
              have gBX : W8.heap.size ≤ z2.heap.size := Bh2.out.size
              have Bh3 := hid (Bh2.out.trans (hb.mono Bh2.out.size))
              have SH3 := hid ((ShFr.at HS2.out).bel hb)
              clear hb hz3
              refine hK.out _ _ (KH.out _ (kept T5.out hl58 Bh3.out)) (fun hHeld => ?_)
              clear hK
              refine wpAnyH_ready (rs := [8]) (by kernel_rfl) (by simp) ?_
              refine AllReadyH.cons (o := ⟨none, .store 31 (.tmp 8) (.tmp 39), 0, "demote.go:22", #[⟨7, .data⟩, ⟨5, .data⟩, ⟨3, .chain⟩, ⟨0, .phase⟩, ⟨1, .phase⟩, ⟨2, .phase⟩, ⟨3, .phase⟩, ⟨4, .phase⟩, ⟨5, .phase⟩, ⟨6, .textOnly .lateStores⟩, ⟨7, .phase⟩], none⟩) rfl (fun K hK => ?_) AllReadyH.nil
              obtain ⟨o0, o1, of⟩ := cells2 (BX3.out)
              go_simp
              clear o0 o1 of
              refine hK.out _ _ (KH.out _ (((set_blk (z3.setCell ⟨z2.heap.size, 0, none⟩ (.slice f2 (t5.getD M.zeroS).fs.length n2)) (z2.heap.size) 1 (.slice p2 (t5.getD M.zeroS).pr.length m2) (w2.heap.size) (by omega)).trans ((set_blk z3 (z2.heap.size) 0 (.slice f2 (t5.getD M.zeroS).fs.length n2) (w2.heap.size) (by omega)).trans (kept T5.out hl58 Bh3.out))))) (fun hHeld => ?_)
              clear hK
              refine tk 9 ⟨some 9, .assign (.tmp 40), 4, "demote.go:22", #[⟨6, .data⟩, ⟨8, .chain⟩, ⟨0, .phase⟩, ⟨1, .phase⟩, ⟨2, .phase⟩, ⟨3, .phase⟩, ⟨4, .phase⟩, ⟨5, .phase⟩, ⟨6, .phase⟩, ⟨7, .phase⟩, ⟨8, .phase⟩], none⟩ (v := ?_) hHeld ?_ ?_
              rotate_left
              · intro w hSw; (try dsimp only at hSw); go_simp; (try with_reducible rfl)
              simp only [Act.put, List.setIfInBounds_toArray, List.set_cons_zero, List.set_cons_succ]
              refine wpAnyH_done (by kernel_rfl) ?_ _
              clear hHeld KH
              go_wp2_with fail
              go_meet
              exact ⟨z2.heap.size, f2, n2, p2, m2, rfl, rfl, hid (box_set2 (BX3.out) _ _), gBX, hid (ShAt.off2 SH3.out (BX3.out) _ _), hid ((Bh3.out.setCell (p := ⟨z2.heap.size, 0, none⟩) gBX _).setCell (p := ⟨z2.heap.size, 1, none⟩) gBX _)⟩
            · obtain ⟨z5, hz5⟩ : ∃ W, z1.alloc (.cells #[.slice none 0 0, .slice none 0 0] 31 : Obj) = W := ⟨_, rfl⟩
              go_simp
              have hb : Below z1.heap.size z1 z5 := by rw [← hz5]; exact (gr_new _ _).below
              have BX5 : Hid (z5.heap[z1.heap.size]? = some (.cells #[.slice none 0 0, .slice none 0 0] 31 (0, 0))) := by unfold Hid; rw [← hz5]; exact new_at _ _
              have gBX : W8.heap.size ≤ z1.heap.size := Bh1.out.size
              have Bh5 := hid (Bh1.out.trans (hb.mono Bh1.out.size))
              clear hb hz5
              refine hK.out _ _ (KH.out _ (kept T5.out hl58 Bh5.out)) (fun hHeld => ?_)
              clear hK
              refine wpAnyH_ready (rs := [3]) (by kernel_rfl) (by simp) ?_
              refine AllReadyH.cons (o := ⟨some 38, .call { callee := .value (.func 32), args := #[.tmp 35, .tmp 37], argTypes := #[25, 34] }, 50, "demote.go:22", #[⟨0, .data⟩, ⟨2, .data⟩, ⟨2, .chain⟩], none⟩) rfl (fun K hK => ?_) AllReadyH.nil
              go_simp
              refine (KL.out _ Bh5.out).mono ?_
              rintro e z6 ⟨v6, rfl, hS6, hb⟩
              obtain ⟨f6, n6, p6, m6, rfl⟩ := ShAt.form (ShFr.at hS6)
              have HS6 := hid hS6
              clear hS6
              have Bh6 := hid (Bh5.out.trans (hb.mono Bh5.out.size))
              have BX6 := hid (bx_bel BX5.out hb)
              clear hb
              refine hK.out _ _ (KH.out _ (kept T5.out hl58 Bh6.out)) (fun hHeld => ?_)
              clear hK
              refine tk 4 ⟨some 34, .move (.tmp 38), 50, "demote.go:22", #[⟨3, .data⟩], none⟩ (v := ?_) hHeld ?_ ?_
              rotate_left
              · intro w hSw; (try dsimp only at hSw); go_simp; (try with_reducible rfl)
              simp only [Act.put, List.setIfInBounds_toArray, List.set_cons_zero, List.set_cons_succ]
              refine tk 5 ⟨some 39, .extract (.tmp 34) 0, 31, "demote.go:22", #[⟨4, .data⟩], none⟩ (v := ?_) hHeld ?_ ?_
              rotate_left
              · intro w hSw; (try dsimp only at hSw); go_simp; (try with_reducible rfl)
              simp only [Act.put, List.setIfInBounds_toArray, List.set_cons_zero, List.set_cons_succ]
              refine tk 6 ⟨some 40, .extract (.tmp 34) 1, 4, "demote.go:22", #[⟨4, .data⟩, ⟨8, .gcOnly .lateStores⟩], none⟩ (v := ?_) hHeld ?_ ?_
              rotate_left
              · intro w hSw; (try dsimp only at hSw); go_simp; (try with_reducible rfl)
              simp only [Act.put, List.setIfInBounds_toArray, List.set_cons_zero, List.set_cons_succ]
              refine wpAnyH_ready (rs := [8]) (by kernel_rfl) (by simp) ?_
              refine AllReadyH.cons (o := ⟨none, .store 31 (.tmp 8) (.tmp 39), 0, "demote.go:22", #[⟨7, .data⟩, ⟨5, .data⟩, ⟨3, .chain⟩, ⟨0, .phase⟩, ⟨1, .phase⟩, ⟨2, .phase⟩, ⟨3, .phase⟩, ⟨4, .phase⟩, ⟨5, .phase⟩, ⟨6, .textOnly .lateStores⟩, ⟨7, .phase⟩], none⟩) rfl (fun K hK => ?_) AllReadyH.nil
              obtain ⟨o0, o1, of⟩ := cells2 (BX6.out)
              go_simp
              clear o0 o1 of
              refine hK.out _ _ (KH.out _ (((set_blk (z6.setCell ⟨z1.heap.size, 0, none⟩ (.slice f6 (t5.getD M.zeroS).fs.length n6)) (z1.heap.size) 1 (.slice p6 (t5.getD M.zeroS).pr.length m6) (w2.heap.size) (by omega)).trans ((set_blk z6 (z1.heap.size) 0 (.slice f6 (t5.getD M.zeroS).fs.length n6) (w2.heap.size) (by omega)).trans (kept T5.out hl58 Bh6.out))))) (fun hHeld => ?_)
              clear hK
              refine tk 9 ⟨some 9, .assign (.tmp 40), 4, "demote.go:22", #[⟨6, .data⟩, ⟨8, .chain⟩, ⟨0, .phase⟩, ⟨1, .phase⟩, ⟨2, .phase⟩, ⟨3, .phase⟩, ⟨4, .phase⟩, ⟨5, .phase⟩, ⟨6, .phase⟩, ⟨7, .phase⟩, ⟨8, .phase⟩], none⟩ (v := ?_) hHeld ?_ ?_
              rotate_left
              · intro w hSw; (try dsimp only at hSw); go_simp; (try with_reducible rfl)
              simp only [Act.put, List.setIfInBounds_toArray, List.set_cons_zero, List.set_cons_succ]
              refine wpAnyH_done (by kernel_rfl) ?_ _
              clear hHeld KH
              go_wp2_with fail
              go_meet
              exact ⟨z1.heap.size, f6, n6, p6, m6, rfl, rfl, hid (box_set2 (BX6.out) _ _), gBX, hid (ShAt.off2 (ShFr.at HS6.out) (BX6.out) _ _), hid ((Bh6.out.setCell (p := ⟨z1.heap.size, 0, none⟩) gBX _).setCell (p := ⟨z1.heap.size, 1, none⟩) gBX _)⟩
          · obtain ⟨z8, hz8⟩ : ∃ W, W8.drew.alloc (.cells #[.slice none 0 0, .slice none 0 0] 31 : Obj) = W := ⟨_, rfl⟩
            go_simp
            have hb : Below W8.drew.heap.size W8.drew z8 := by rw [← hz8]; exact (gr_new _ _).below
            have BX8 : Hid (z8.heap[W8.heap.size]? = some (.cells #[.slice none 0 0, .slice none 0 0] 31 (0, 0))) := by unfold Hid; rw [← hz8]; exact new_at _ _
            have gBX : W8.heap.size ≤ W8.heap.size := Bh0.out.size
            have Bh8 := hid (Bh0.out.trans (hb.mono Bh0.out.size))
            clear hb hz8
            refine hK.out _ _ (KH.out _ (kept T5.out hl58 Bh8.out)) (fun hHeld => ?_)
            clear hK
            refine wpAnyH_ready (rs := [2]) (by kernel_rfl) (by simp) ?_
            refine AllReadyH.cons (o := ⟨some 37, .call { callee := .value (.func 35), args := #[.tmp 36], argTypes := #[3] }, 34, "demote.go:22", #[⟨1, .data⟩], none⟩) rfl (fun K hK => ?_) AllReadyH.nil
            go_simp
            refine (KO.out _ Bh8.out).mono ?_
            rintro e z9 ⟨rfl, hb⟩
            have Bh9 := hid (Bh8.out.trans (hb.mono Bh8.out.size))
            have BX9 := hid (bx_bel BX8.out hb)
            clear hb
            refine hK.out _ _ (KH.out _ (kept T5.out hl58 Bh9.out)) (fun hHeld => ?_)
            clear hK
            refine wpAnyH_ready (rs := [3]) (by kernel_rfl) (by simp) ?_
            refine AllReadyH.cons (o := ⟨some 38, .call { callee := .value (.func 32), args := #[.tmp 35, .tmp 37], argTypes := #[25, 34] }, 50, "demote.go:22", #[⟨0, .data⟩, ⟨2, .data⟩, ⟨2, .chain⟩], none⟩) rfl (fun K hK => ?_) AllReadyH.nil
            go_simp
            refine (KL.out _ Bh9.out).mono ?_
            rintro e z10 ⟨v10, rfl, hS10, hb⟩
            obtain ⟨f10, n10, p10, m10, rfl⟩ := ShAt.form (ShFr.at hS10)
            have HS10 := hid hS10
            clear hS10
            have Bh10 := hid (Bh9.out.trans (hb.mono Bh9.out.size))
            have BX10 := hid (bx_bel BX9.out hb)
            clear hb
            refine hK.out _ _ (KH.out _ (kept T5.out hl58 Bh10.out)) (fun hHeld => ?_)
            clear hK
            refine tk 4 ⟨some 34, .move (.tmp 38), 50, "demote.go:22", #[⟨3, .data⟩], none⟩ (v := ?_) hHeld ?_ ?_
            rotate_left
            · intro w hSw; (try dsimp only at hSw); go_simp; (try with_reducible rfl)
            simp only [Act.put, List.setIfInBounds_toArray, List.set_cons_zero, List.set_cons_succ]
            refine tk 5 ⟨some 39, .extract (.tmp 34) 0, 31, "demote.go:22", #[⟨4, .data⟩], none⟩ (v := ?_) hHeld ?_ ?_
            rotate_left
            · intro w hSw; (try dsimp only at hSw); go_simp; (try with_reducible rfl)
            simp only [Act.put, List.setIfInBounds_toArray, List.set_cons_zero, List.set_cons_succ]
            refine tk 6 ⟨some 40, .extract (.tmp 34) 1, 4, "demote.go:22", #[⟨4, .data⟩, ⟨8, .gcOnly .lateStores⟩], none⟩ (v := ?_) hHeld ?_ ?_
            rotate_left
            · intro w hSw; (try dsimp only at hSw); go_simp; (try with_reducible rfl)
            simp only [Act.put, List.setIfInBounds_toArray, List.set_cons_zero, List.set_cons_succ]
            refine wpAnyH_ready (rs := [8]) (by kernel_rfl) (by simp) ?_
            refine AllReadyH.cons (o := ⟨none, .store 31 (.tmp 8) (.tmp 39), 0, "demote.go:22", #[⟨7, .data⟩, ⟨5, .data⟩, ⟨3, .chain⟩, ⟨0, .phase⟩, ⟨1, .phase⟩, ⟨2, .phase⟩, ⟨3, .phase⟩, ⟨4, .phase⟩, ⟨5, .phase⟩, ⟨6, .textOnly .lateStores⟩, ⟨7, .phase⟩], none⟩) rfl (fun K hK => ?_) AllReadyH.nil
            obtain ⟨o0, o1, of⟩ := cells2 (BX10.out)
            go_simp
            clear o0 o1 of
            refine hK.out _ _ (KH.out _ (((set_blk (z10.setCell ⟨W8.heap.size, 0, none⟩ (.slice f10 (t5.getD M.zeroS).fs.length n10)) (W8.heap.size) 1 (.slice p10 (t5.getD M.zeroS).pr.length m10) (w2.heap.size) (by omega)).trans ((set_blk z10 (W8.heap.size) 0 (.slice f10 (t5.getD M.zeroS).fs.length n10) (w2.heap.size) (by omega)).trans (kept T5.out hl58 Bh10.out))))) (fun hHeld => ?_)
            clear hK
            refine tk 9 ⟨some 9, .assign (.tmp 40), 4, "demote.go:22", #[⟨6, .data⟩, ⟨8, .chain⟩, ⟨0, .phase⟩, ⟨1, .phase⟩, ⟨2, .phase⟩, ⟨3, .phase⟩, ⟨4, .phase⟩, ⟨5, .phase⟩, ⟨6, .phase⟩, ⟨7, .phase⟩, ⟨8, .phase⟩], none⟩ (v := ?_) hHeld ?_ ?_
            rotate_left
            · intro w hSw; (try dsimp only at hSw); go_simp; (try with_reducible rfl)
            simp only [Act.put, List.setIfInBounds_toArray, List.set_cons_zero, List.set_cons_succ]
            refine wpAnyH_done (by kernel_rfl) ?_ _
            clear hHeld KH
            go_wp2_with fail
            go_meet
            exact ⟨W8.heap.size, f10, n10, p10, m10, rfl, rfl, hid (box_set2 (BX10.out) _ _), gBX, hid (ShAt.off2 (ShFr.at HS10.out) (BX10.out) _ _), hid ((Bh10.out.setCell (p := ⟨W8.heap.size, 0, none⟩) gBX _).setCell (p := ⟨W8.heap.size, 1, none⟩) gBX _)⟩
        case rest =>
          obtain ⟨g9, f9, n9, p9, m9, rfl, rfl, hbx, hg9, hsh, hbel⟩ := hcut
          clear KL
          have hzc := hbel.out.size
          cases t5 with
          | none =>
            obtain ⟨W9, hW9⟩ : ∃ W9, W9 = wc := ⟨_, rfl⟩
            have X9 : Hid (W9.heap[g6]? = some (.cells #[.slice f7 (M.renS o k).fs.length n7, .slice p7 (M.renS o k).pr.length m7] 31 (0, 0))) := by rw [hW9]; exact kept X8.out hg8 hbel.out
            have H9 : Hid (ShAt W9 (.agg #[.slice f7 (M.renS o k).fs.length n7, .slice p7 (M.renS o k).pr.length m7]) (M.renS o k)) := by rw [hW9]; exact H8.out.bel hbel.out
            have B9 : Hid (Below W3.heap.size W3 W9) := by rw [hW9]; exact B8.out.trans (hbel.out.mono hz8)
            have HQ : Hid (M.renS o k = M.locJ (some (M.renS o k)) none) := rfl
            have HSQ : Hid (M.Sm 100000 (M.renS o k)) := M.sm_mono (M.sm_ren HSO.out k) (by decide)
            go_wp2_with fail
            rw [← hW9]
            clear hbx hsh hbel hW9 hzc
            obtain ⟨oq, hoq⟩ : ∃ q, M.renS o k = q := ⟨_, rfl⟩
            rw [hoq] at X9 H9 HQ HSQ
            have KP2 : Hid (∀ W, Below W9.heap.size W9 W → Calls Tryz.prog 37 #[.agg #[.bool r.dead, .slice qa r.vs.length ca, .slice qb r.ls.length cb], .agg #[.int .i64 5, .int .i64 k], .agg #[.slice f7 oq.fs.length n7, .slice p7 oq.pr.length m7]] W fun e w' => ∃ v', e = .returned v' ∧ StFr W.heap.size w' v' res ∧ Below W.heap.size W w') := fun W hb => KP.out W oq f7 n7 p7 m7 (B9.out.trans (hb.mono B9.out.size)) (H9.out.bel hb) HSQ.out (by rw [← hoq]; rfl)
            have hl69 : g6 < W9.heap.size := (Array.getElem?_eq_some_iff.1 X9.out).1
            have hl59 : w2.heap.size < W9.heap.size := by have := B9.out.size; omega
            have U5 := hid (kept S5.out hl5 B9.out)
            have U2 := hid (kept S2.out (by omega) B9.out)
            have BW9 : Hid (Below w.heap.size w W9) := B3.out.trans (B9.out.mono B3.out.size)
            have KO2 : Hid (∀ W, Below W9.heap.size W9 W → Calls Tryz.prog 35 #[.int .i64 k] W fun e w' => e = .returned (.agg #[.int .i64 5, .int .i64 k]) ∧ Below W.heap.size W w') := fun W hb => older_any k W
            have hn1 : w.heap.size + 1 < W9.heap.size := by omega
            have hn2 : w2.heap.size ≠ w.heap.size + 1 := by omega
            have hn3 : g6 ≠ w.heap.size + 1 := by omega
            have KH : Hid (∀ Z : World, Z.heap[w2.heap.size]? = some (.cells #[.bool r.dead, .slice qa r.vs.length ca, .slice qb r.ls.length cb] 25 (0, 0)) → Z.heap[g6]? = some (.cells #[.slice f7 oq.fs.length n7, .slice p7 oq.pr.length m7] 31 (0, 0)) → (Z.cell? ⟨w2.heap.size, 0, none⟩ = some (.bool r.dead) ∧ Z.cell? ⟨w2.heap.size, 1, none⟩ = some (.slice qa r.vs.length ca) ∧ Z.cell? ⟨w2.heap.size, 2, none⟩ = some (.slice qb r.ls.length cb) ∧ Z.cell? ⟨g6, 0, none⟩ = some (.slice f7 oq.fs.length n7) ∧ Z.cell? ⟨g6, 1, none⟩ = some (.slice p7 oq.pr.length m7))) := fun Z k0 k1 => by
              obtain ⟨y00, y01, y02, _⟩ := cells3 k0
              obtain ⟨y10, y11, _⟩ := cells2 k1
              exact ⟨y00, y01, y02, y10, y11⟩
            refine wp_region_held_drew (S := fun W => W.cell? ⟨w2.heap.size, 0, none⟩ = some (.bool r.dead) ∧ W.cell? ⟨w2.heap.size, 1, none⟩ = some (.slice qa r.vs.length ca) ∧ W.cell? ⟨w2.heap.size, 2, none⟩ = some (.slice qb r.ls.length cb) ∧ W.cell? ⟨g6, 0, none⟩ = some (.slice f7 oq.fs.length n7) ∧ W.cell? ⟨g6, 1, none⟩ = some (.slice p7 oq.pr.length m7)) (by kernel_rfl) (KH.out _ U5.out X9.out) (fun hHeld => ?_)
            have Bt0 : Hid (Below W9.heap.size W9 W9.drew) := (Gr.refl W9).drew.below
            refine tk 0 ⟨some 45, .load 25 (.tmp 5), 25, "demote.go:25", #[], none⟩ (v := ?_) hHeld ?_ ?_
            rotate_left
            · intro w hSw; (try dsimp only at hSw); go_simp; (try with_reducible rfl)
            simp only [Act.put, List.setIfInBounds_toArray, List.set_cons_zero, List.set_cons_succ]
            refine tk 1 ⟨some 46, .move (.tmp 1), 3, "demote.go:25", #[], none⟩ (v := ?_) hHeld ?_ ?_
            rotate_left
            · intro w hSw; (try dsimp only at hSw); go_simp; (try with_reducible rfl)
            simp only [Act.put, List.setIfInBounds_toArray, List.set_cons_zero, List.set_cons_succ]
            refine tk 3 ⟨some 48, .load 31 (.tmp 6), 31, "demote.go:25", #[], none⟩ (v := ?_) hHeld ?_ ?_
            rotate_left
            · intro w hSw; (try dsimp only at hSw); go_simp; (try with_reducible rfl)
            simp only [Act.put, List.setIfInBounds_toArray, List.set_cons_zero, List.set_cons_succ]
            refine wpAnyH_ready (rs := [2]) (by kernel_rfl) (by simp) ?_
            refine AllReadyH.cons (o := ⟨some 47, .call { callee := .value (.func 35), args := #[.tmp 46], argTypes := #[3] }, 34, "demote.go:25", #[⟨1, .data⟩], none⟩) rfl (fun K hK => ?_) AllReadyH.nil
            go_simp
            refine (KO2.out _ Bt0.out).mono ?_
            rintro e z1 ⟨rfl, hb⟩
            have Bt1 := hid (Bt0.out.trans (hb.mono Bt0.out.size))
            clear hb
            refine hK.out _ _ (KH.out _ (kept U5.out hl59 Bt1.out) (kept X9.out hl69 Bt1.out)) (fun hHeld => ?_)
            clear hK
            refine wpAnyH_ready (rs := [4]) (by kernel_rfl) (by simp) ?_
            refine AllReadyH.cons (o := ⟨some 49, .call { callee := .value (.func 37), args := #[.tmp 45, .tmp 47, .tmp 48], argTypes := #[25, 34, 31] }, 25, "demote.go:25", #[⟨0, .data⟩, ⟨2, .data⟩, ⟨3, .data⟩, ⟨2, .chain⟩], none⟩) rfl (fun K hK => ?_) AllReadyH.nil
            go_simp
            refine (KP2.out _ Bt1.out).mono ?_
            rintro e z2 ⟨v2, rfl, hF2, hb⟩
            obtain ⟨qx2, cx2, qy2, cy2, rfl⟩ := StAt.form (StFr.at hF2)
            have HF2 := hid hF2
            clear hF2
            have Bt2 := hid (Bt1.out.trans (hb.mono Bt1.out.size))
            clear hb
            refine hK.out _ _ (KH.out _ (kept U5.out hl59 Bt2.out) (kept X9.out hl69 Bt2.out)) (fun hHeld => ?_)
            clear hK
            refine wpAnyH_ready (rs := [5]) (by kernel_rfl) (by simp) ?_
            refine AllReadyH.cons (o := ⟨none, .store 25 (.tmp 4) (.tmp 49), 0, "demote.go:25", #[⟨4, .data⟩, ⟨4, .chain⟩, ⟨0, .phase⟩, ⟨1, .phase⟩, ⟨2, .phase⟩, ⟨3, .phase⟩, ⟨4, .phase⟩], none⟩) rfl (fun K hK => ?_) AllReadyH.nil
            obtain ⟨o0, o1, o2, of⟩ := cells3 (kept U2.out hn1 Bt2.out)
            go_simp
            clear o0 o1 o2 of
            refine hK.out _ _ (KH.out _ (((set_blk ((z2.setCell ⟨w.heap.size + 1, 0, none⟩ (.bool res.dead)).setCell ⟨w.heap.size + 1, 1, none⟩ (.slice qx2 res.vs.length cx2)) (w.heap.size + 1) 2 (.slice qy2 res.ls.length cy2) (w2.heap.size) (hn2)).trans ((set_blk (z2.setCell ⟨w.heap.size + 1, 0, none⟩ (.bool res.dead)) (w.heap.size + 1) 1 (.slice qx2 res.vs.length cx2) (w2.heap.size) (hn2)).trans ((set_blk z2 (w.heap.size + 1) 0 (.bool res.dead) (w2.heap.size) (hn2)).trans (kept U5.out hl59 Bt2.out))))) (((set_blk ((z2.setCell ⟨w.heap.size + 1, 0, none⟩ (.bool res.dead)).setCell ⟨w.heap.size + 1, 1, none⟩ (.slice qx2 res.vs.length cx2)) (w.heap.size + 1) 2 (.slice qy2 res.ls.length cy2) (g6) (hn3)).trans ((set_blk (z2.setCell ⟨w.heap.size + 1, 0, none⟩ (.bool res.dead)) (w.heap.size + 1) 1 (.slice qx2 res.vs.length cx2) (g6) (hn3)).trans ((set_blk z2 (w.heap.size + 1) 0 (.bool res.dead) (g6) (hn3)).trans (kept X9.out hl69 Bt2.out)))))) (fun hHeld => ?_)
            clear hK
            refine wpAnyH_done (by kernel_rfl) ?_ _
            clear hHeld KH
            obtain ⟨z1, z2, z3, zf⟩ := cells3 (box3_put (kept U2.out hn1 Bt2.out) (.bool res.dead) (.slice qx2 res.vs.length cx2) (.slice qy2 res.ls.length cy2))
            go_wp2
            refine bodyPost_ret (v := .agg #[.bool res.dead, .slice qx2 res.vs.length cx2, .slice qy2 res.ls.length cy2]) (by simp [results, Tryz.results11, go_sem, z1, z2, z3]) rfl ?_
            refine ⟨_, rfl, ?_, set3k (BW9.out.trans (Bt2.out.mono BW9.out.size)) (by omega) _ _ _⟩
            exact ((((HF2.out.set (g := w.heap.size + 1) (by have := Bt1.out.size; omega)).set (g := w.heap.size + 1) (by have := Bt1.out.size; omega)).set (g := w.heap.size + 1) (by have := Bt1.out.size; omega)).mono (by have := Bt1.out.size; omega))
          | some p =>
            have hbx : Hid (wc.heap[g9]? = some (.cells #[.slice f9 p.fs.length n9, .slice p9 p.pr.length m9] 31 (0, 0))) := hbx
            have hsh : Hid (ShAt wc (.agg #[.slice f9 p.fs.length n9, .slice p9 p.pr.length m9]) p) := hsh
            have HPM : Hid (M.mayS p = true) := (HMR.out.lm _ _ HT5.out).2
            have HSP : Hid (M.Sm 50000 p) := M.smSt_loc HKR2.out HT5.out
            have HSR : Hid (M.Sm 50000 (M.renS o k)) := M.sm_ren HSO.out k
            have HMO : Hid (M.mayS (M.renS o k) = true) := M.may_renS HO.out k
            have X6 := hid (kept X8.out hg8 hbel.out)
            have KJ := ojoin_any wc _ _ (M.renS o k) p (H8.out.bel hbel.out) hsh.out (M.sm_mono HSR.out (by decide)) (M.sm_mono HSP.out (by decide))
            rw [M.join_if' HMO.out HPM.out] at KJ
            have HKJ := hid KJ
            have HSQ : Hid (M.Sm 100000 (M.joinS (M.renS o k) p)) := M.sm_mono (M.sm_join HSR.out HSP.out) (by decide)
            have HQ : Hid (M.joinS (M.renS o k) p = M.locJ (some (M.renS o k)) (some p)) := rfl
            obtain ⟨x1, x2, xf⟩ := cells2 X6.out
            obtain ⟨y1, y2, yf⟩ := cells2 hbx.out
            have hgc6 : g6 < wc.heap.size := (Array.getElem?_eq_some_iff.1 X6.out).1
            clear KJ
            simp only [Option.getD_some, Option.isSome_some]
            go_wp2_with (go_at_call 36; refine stopHere ?_)
            refine stopAt ?_
            refine HKJ.out.mono ?_
            rintro e w9 ⟨v9, rfl, hS9, hb9⟩
            clear x1 x2 xf y1 y2 yf HKJ
            obtain ⟨oq, hoq⟩ : ∃ q, M.joinS (M.renS o k) p = q := ⟨_, rfl⟩
            rw [hoq] at hS9 HSQ HQ
            obtain ⟨fj, nj, pj, mj, rfl⟩ := ShAt.form (ShNew.at hS9)
            have hbx9 := kept X6.out hgc6 hb9
            obtain ⟨x1, x2, xf⟩ := cells2 hbx9
            have X9 := hid (box_set2 hbx9 (.slice fj oq.fs.length nj) (.slice pj oq.pr.length mj))
            have H9 := hid (ShAt.off2 (ShNew.at hS9) hbx9 (.slice fj oq.fs.length nj) (.slice pj oq.pr.length mj))
            have hb89 : Below W3.heap.size W3 w9 := (B8.out.trans (hbel.out.mono hz8)).trans (hb9.mono (by omega))
            have B9 : Hid (Below W3.heap.size W3 ((w9.setCell ⟨g6, 0, none⟩ (.slice fj oq.fs.length nj)).setCell ⟨g6, 1, none⟩ (.slice pj oq.pr.length mj))) := (hb89.setCell (p := ⟨g6, 0, none⟩) hg6 _).setCell (p := ⟨g6, 1, none⟩) hg6 _
            go_wp2_with fail
            clear x1 x2 xf hbx hsh hS9 hb9 hbx9 hb89 hbel hgc6 hzc
            generalize (w9.setCell ⟨g6, 0, none⟩ (.slice fj oq.fs.length nj)).setCell ⟨g6, 1, none⟩ (.slice pj oq.pr.length mj) = W9 at X9 H9 B9 ⊢
            have KP2 : Hid (∀ W, Below W9.heap.size W9 W → Calls Tryz.prog 37 #[.agg #[.bool r.dead, .slice qa r.vs.length ca, .slice qb r.ls.length cb], .agg #[.int .i64 5, .int .i64 k], .agg #[.slice fj oq.fs.length nj, .slice pj oq.pr.length mj]] W fun e w' => ∃ v', e = .returned v' ∧ StFr W.heap.size w' v' res ∧ Below W.heap.size W w') := fun W hb => KP.out W oq fj nj pj mj (B9.out.trans (hb.mono B9.out.size)) (H9.out.bel hb) HSQ.out HQ.out
            have hl69 : g6 < W9.heap.size := (Array.getElem?_eq_some_iff.1 X9.out).1
            have hl59 : w2.heap.size < W9.heap.size := by have := B9.out.size; omega
            have U5 := hid (kept S5.out hl5 B9.out)
            have U2 := hid (kept S2.out (by omega) B9.out)
            have BW9 : Hid (Below w.heap.size w W9) := B3.out.trans (B9.out.mono B3.out.size)
            have KO2 : Hid (∀ W, Below W9.heap.size W9 W → Calls Tryz.prog 35 #[.int .i64 k] W fun e w' => e = .returned (.agg #[.int .i64 5, .int .i64 k]) ∧ Below W.heap.size W w') := fun W hb => older_any k W
            have hn1 : w.heap.size + 1 < W9.heap.size := by omega
            have hn2 : w2.heap.size ≠ w.heap.size + 1 := by omega
            have hn3 : g6 ≠ w.heap.size + 1 := by omega
            have KH : Hid (∀ Z : World, Z.heap[w2.heap.size]? = some (.cells #[.bool r.dead, .slice qa r.vs.length ca, .slice qb r.ls.length cb] 25 (0, 0)) → Z.heap[g6]? = some (.cells #[.slice fj oq.fs.length nj, .slice pj oq.pr.length mj] 31 (0, 0)) → (Z.cell? ⟨w2.heap.size, 0, none⟩ = some (.bool r.dead) ∧ Z.cell? ⟨w2.heap.size, 1, none⟩ = some (.slice qa r.vs.length ca) ∧ Z.cell? ⟨w2.heap.size, 2, none⟩ = some (.slice qb r.ls.length cb) ∧ Z.cell? ⟨g6, 0, none⟩ = some (.slice fj oq.fs.length nj) ∧ Z.cell? ⟨g6, 1, none⟩ = some (.slice pj oq.pr.length mj))) := fun Z k0 k1 => by
              obtain ⟨y00, y01, y02, _⟩ := cells3 k0
              obtain ⟨y10, y11, _⟩ := cells2 k1
              exact ⟨y00, y01, y02, y10, y11⟩
            refine wp_region_held_drew (S := fun W => W.cell? ⟨w2.heap.size, 0, none⟩ = some (.bool r.dead) ∧ W.cell? ⟨w2.heap.size, 1, none⟩ = some (.slice qa r.vs.length ca) ∧ W.cell? ⟨w2.heap.size, 2, none⟩ = some (.slice qb r.ls.length cb) ∧ W.cell? ⟨g6, 0, none⟩ = some (.slice fj oq.fs.length nj) ∧ W.cell? ⟨g6, 1, none⟩ = some (.slice pj oq.pr.length mj)) (by kernel_rfl) (KH.out _ U5.out X9.out) (fun hHeld => ?_)
            have Bt0 : Hid (Below W9.heap.size W9 W9.drew) := (Gr.refl W9).drew.below
            refine tk 0 ⟨some 45, .load 25 (.tmp 5), 25, "demote.go:25", #[], none⟩ (v := ?_) hHeld ?_ ?_
            rotate_left
            · intro w hSw; (try dsimp only at hSw); go_simp; (try with_reducible rfl)
            simp only [Act.put, List.setIfInBounds_toArray, List.set_cons_zero, List.set_cons_succ]
            refine tk 1 ⟨some 46, .move (.tmp 1), 3, "demote.go:25", #[], none⟩ (v := ?_) hHeld ?_ ?_
            rotate_left
            · intro w hSw; (try dsimp only at hSw); go_simp; (try with_reducible rfl)
            simp only [Act.put, List.setIfInBounds_toArray, List.set_cons_zero, List.set_cons_succ]
            refine tk 3 ⟨some 48, .load 31 (.tmp 6), 31, "demote.go:25", #[], none⟩ (v := ?_) hHeld ?_ ?_
            rotate_left
            · intro w hSw; (try dsimp only at hSw); go_simp; (try with_reducible rfl)
            simp only [Act.put, List.setIfInBounds_toArray, List.set_cons_zero, List.set_cons_succ]
            refine wpAnyH_ready (rs := [2]) (by kernel_rfl) (by simp) ?_
            refine AllReadyH.cons (o := ⟨some 47, .call { callee := .value (.func 35), args := #[.tmp 46], argTypes := #[3] }, 34, "demote.go:25", #[⟨1, .data⟩], none⟩) rfl (fun K hK => ?_) AllReadyH.nil
            go_simp
            refine (KO2.out _ Bt0.out).mono ?_
            rintro e z1 ⟨rfl, hb⟩
            have Bt1 := hid (Bt0.out.trans (hb.mono Bt0.out.size))
            clear hb
            refine hK.out _ _ (KH.out _ (kept U5.out hl59 Bt1.out) (kept X9.out hl69 Bt1.out)) (fun hHeld => ?_)
            clear hK
            refine wpAnyH_ready (rs := [4]) (by kernel_rfl) (by simp) ?_
            refine AllReadyH.cons (o := ⟨some 49, .call { callee := .value (.func 37), args := #[.tmp 45, .tmp 47, .tmp 48], argTypes := #[25, 34, 31] }, 25, "demote.go:25", #[⟨0, .data⟩, ⟨2, .data⟩, ⟨3, .data⟩, ⟨2, .chain⟩], none⟩) rfl (fun K hK => ?_) AllReadyH.nil
            go_simp
            refine (KP2.out _ Bt1.out).mono ?_
            rintro e z2 ⟨v2, rfl, hF2, hb⟩
            obtain ⟨qx2, cx2, qy2, cy2, rfl⟩ := StAt.form (StFr.at hF2)
            have HF2 := hid hF2
            clear hF2
            have Bt2 := hid (Bt1.out.trans (hb.mono Bt1.out.size))
            clear hb
            refine hK.out _ _ (KH.out _ (kept U5.out hl59 Bt2.out) (kept X9.out hl69 Bt2.out)) (fun hHeld => ?_)
            clear hK
            refine wpAnyH_ready (rs := [5]) (by kernel_rfl) (by simp) ?_
            refine AllReadyH.cons (o := ⟨none, .store 25 (.tmp 4) (.tmp 49), 0, "demote.go:25", #[⟨4, .data⟩, ⟨4, .chain⟩, ⟨0, .phase⟩, ⟨1, .phase⟩, ⟨2, .phase⟩, ⟨3, .phase⟩, ⟨4, .phase⟩], none⟩) rfl (fun K hK => ?_) AllReadyH.nil
            obtain ⟨o0, o1, o2, of⟩ := cells3 (kept U2.out hn1 Bt2.out)
            go_simp
            clear o0 o1 o2 of
            refine hK.out _ _ (KH.out _ (((set_blk ((z2.setCell ⟨w.heap.size + 1, 0, none⟩ (.bool res.dead)).setCell ⟨w.heap.size + 1, 1, none⟩ (.slice qx2 res.vs.length cx2)) (w.heap.size + 1) 2 (.slice qy2 res.ls.length cy2) (w2.heap.size) (hn2)).trans ((set_blk (z2.setCell ⟨w.heap.size + 1, 0, none⟩ (.bool res.dead)) (w.heap.size + 1) 1 (.slice qx2 res.vs.length cx2) (w2.heap.size) (hn2)).trans ((set_blk z2 (w.heap.size + 1) 0 (.bool res.dead) (w2.heap.size) (hn2)).trans (kept U5.out hl59 Bt2.out))))) (((set_blk ((z2.setCell ⟨w.heap.size + 1, 0, none⟩ (.bool res.dead)).setCell ⟨w.heap.size + 1, 1, none⟩ (.slice qx2 res.vs.length cx2)) (w.heap.size + 1) 2 (.slice qy2 res.ls.length cy2) (g6) (hn3)).trans ((set_blk (z2.setCell ⟨w.heap.size + 1, 0, none⟩ (.bool res.dead)) (w.heap.size + 1) 1 (.slice qx2 res.vs.length cx2) (g6) (hn3)).trans ((set_blk z2 (w.heap.size + 1) 0 (.bool res.dead) (g6) (hn3)).trans (kept X9.out hl69 Bt2.out)))))) (fun hHeld => ?_)
            clear hK
            refine wpAnyH_done (by kernel_rfl) ?_ _
            clear hHeld KH
            obtain ⟨z1, z2, z3, zf⟩ := cells3 (box3_put (kept U2.out hn1 Bt2.out) (.bool res.dead) (.slice qx2 res.vs.length cx2) (.slice qy2 res.ls.length cy2))
            go_wp2
            refine bodyPost_ret (v := .agg #[.bool res.dead, .slice qx2 res.vs.length cx2, .slice qy2 res.ls.length cy2]) (by simp [results, Tryz.results11, go_sem, z1, z2, z3]) rfl ?_
            refine ⟨_, rfl, ?_, set3k (BW9.out.trans (Bt2.out.mono BW9.out.size)) (by omega) _ _ _⟩
            exact ((((HF2.out.set (g := w.heap.size + 1) (by have := Bt1.out.size; omega)).set (g := w.heap.size + 1) (by have := Bt1.out.size; omega)).set (g := w.heap.size + 1) (by have := Bt1.out.size; omega)).mono (by have := Bt1.out.size; omega))
end Go.Proofs.YtbaaeobdjiglgaaGreat
