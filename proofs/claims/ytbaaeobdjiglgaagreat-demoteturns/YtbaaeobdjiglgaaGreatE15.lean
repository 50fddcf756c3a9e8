/-
  The walk of demote.renamed: what it answers lies in new blocks. Conditions: states that may be, of at most 100000 of each thing.
-/
import Derived.Test.YtbaaeobdjiglgaaGreatE14
import Derived.Test.YtbaaeobdjiglgaaGreatGA
set_option linter.unusedVariables false
set_option linter.unusedSimpArgs false
namespace Go.Proofs.YtbaaeobdjiglgaaGreat
open Go.RowKit Go.Sort
theorem aged_step {B : List Bnd} {acc : List Bnd} {j : Nat} {k : Int} {x : Bnd} {q : Option Addr} {m : Nat} (h : bndOf acc = M.agedV ((bndOf B).take j) k) (hj : j < B.length) (hx : B[j] = x) : bndOf (acc ++ [⟨x.nm, M.rename x.vs k, q, m⟩]) = M.agedV ((bndOf B).take (j + 1)) k := by
  have hl : j < (bndOf B).length := by rw [bndOf_len]; exact hj
  rw [List.take_succ_eq_append_getElem hl, bndOf_get B j hj, hx]
  unfold M.agedV at *
  rw [List.map_append, ← h]
  simp [bndOf, Bnd.p]
theorem dropL_snoc (l : List (M.Atm × M.Shp)) (z : M.Atm × M.Shp) (k : Int) : M.dropL (l ++ [z]) k = if z.1 = ⟨4, k⟩ then M.dropL l k else M.dropL l k ++ [(z.1, M.renS z.2 k)] := by
  unfold M.dropL
  rw [List.filter_append, List.map_append]
  by_cases h : z.1 = ⟨4, k⟩
  · rw [if_pos h]; simp [h]
  · rw [if_neg h]; simp [h]
theorem drop_take {L : List Lcl} {j : Nat} {k : Int} {x : Lcl} (hj : j < L.length) (hx : L[j] = x) : M.dropL ((lclOf L).take (j + 1)) k = if x.x = ⟨4, k⟩ then M.dropL ((lclOf L).take j) k else M.dropL ((lclOf L).take j) k ++ [(x.x, M.renS x.s k)] := by
  have hl : j < (lclOf L).length := by rw [lclOf_len]; exact hj
  rw [List.take_succ_eq_append_getElem hl, lclOf_get L j hj, hx, dropL_snoc]
  rfl

set_option maxHeartbeats 4000000 in
set_option maxRecDepth 100000 in
theorem drenamed_any (w : World) (v : Value) (s : M.Sta) (k : Int) (h : StAt w v s) (hK : M.SmSt 100000 s) (hM : M.MaySt s) :
    Calls Tryz.prog 31 #[v, .int .i64 k] w fun e w' => ∃ v', e = .returned v' ∧ StFr w.heap.size w' v' (M.renamedSt s k) ∧ Below w.heap.size w w' := by
  obtain ⟨B, L, a, c, b, d, hs, rfl, hB, hL⟩ := h.open
  have mixed := mixedP
  obtain ⟨hn, hvs, hm, hls⟩ := smStB hK hs
  have HV := hid hvs
  have HL := hid hls
  have TB := hid hB
  have TL := hid hL
  have HSV : Hid (bndOf B = s.vs) := by unfold Hid; rw [hs]
  have HSL : Hid (lclOf L = s.ls) := by unfold Hid; rw [hs]
  have HMS : Hid (∀ x ∈ L, M.mayS x.s = true) := fun x hx => by
    have hx2 : x.p ∈ s.ls := by rw [← HSL.out]; exact List.mem_map.2 ⟨x, hx, rfl⟩
    exact (hM.lm x.x x.s (M.getK_of_mem M.keyA hM.lr hx2)).2
  obtain ⟨dd, hdd⟩ : ∃ x, s.dead = x := ⟨_, rfl⟩
  have HDD := hid hdd
  rw [hdd]
  clear h hK hvs hls hB hL hdd hs hM
  obtain ⟨A1, hA1⟩ : ∃ o, (.cells #[.bool dd, .slice a B.length c, .slice b L.length d] 25 : Obj) = o := ⟨_, rfl⟩
  obtain ⟨A2, hA2⟩ : ∃ o, (.cells #[.bool false, .slice none 0 0, .slice none 0 0] 25 : Obj) = o := ⟨_, rfl⟩
  obtain ⟨A3, hA3⟩ : ∃ o, (.cells #[.bool dd, .slice none 0 0, .slice none 0 0] 25 : Obj) = o := ⟨_, rfl⟩
  obtain ⟨W0, hW0⟩ : ∃ W0, ((w.alloc A1).alloc A2).alloc A3 = W0 := ⟨_, rfl⟩
  have b1 := (gr_new w A1).below
  have b2 := (gr_new (w.alloc A1) A2).below
  have b3 := (gr_new ((w.alloc A1).alloc A2) A3).below
  have q1 : ((w.alloc A1).alloc A2).heap[w.heap.size]? = some A1 := kept (B := (w.alloc A1).heap.size) (new_at w A1) (by simp) b2
  have p3 : W0.heap[w.heap.size]? = some A1 := by rw [← hW0]; exact kept (B := ((w.alloc A1).alloc A2).heap.size) q1 (by simp; omega) b3
  have p4 : W0.heap[w.heap.size + 1]? = some A2 := by
    rw [← hW0]
    have := kept (B := ((w.alloc A1).alloc A2).heap.size) (new_at (w.alloc A1) A2) (by simp) b3
    rw [World.size_alloc] at this
    exact this
  have p5 : W0.heap[w.heap.size + 2]? = some A3 := by
    rw [← hW0]
    have := new_at ((w.alloc A1).alloc A2) A3
    rw [World.size_alloc, World.size_alloc] at this
    exact this
  have hz : w.heap.size + 3 = W0.heap.size := by rw [← hW0]; simp
  have B0 : Hid (Below w.heap.size w W0) := by unfold Hid; rw [← hW0]; exact (b1.trans (b2.mono b1.size)).trans (b3.mono (b1.trans (b2.mono b1.size)).size)
  rw [← hA1] at p3 q1
  rw [← hA2] at p4
  rw [← hA3] at p5
  subst hA1 hA2 hA3
  have P1 := hid p3
  have P2 := hid p4
  have P3 := hid p5
  have HW0 := hid hW0
  clear hW0
  clear b1 b2 b3 p3 p4 p5 q1
  obtain ⟨N, hN⟩ : ∃ N, W0.heap.size = N := ⟨_, rfl⟩
  have HN := hid hN
  go_enter Tryz.func31, Tryz.ntmps31
  go_wp2
  rw [HW0.out]
  clear HW0
  go_loopw [16] (fun i w' => ∃ (j : Nat) (qv : Option Addr) (mv : Nat) (acc : List Bnd), j ≤ B.length ∧ i = .int .i64 j ∧ Hid (acc.length = j) ∧ Hid (bndOf acc = M.agedV ((bndOf B).take j) k) ∧ Hid (DB N w' (.slice qv j mv) acc) ∧ Hid (w'.heap[w.heap.size + 2]? = some (.cells #[.bool dd, .slice qv j mv, .slice none 0 0] 25 (0, 0))) ∧ Hid (OffG (some (w.heap.size + 2)) W0 w') ∧ Hid (Below w.heap.size w w')) (fun i _ => B.length - (intOf i).toNat)
  case atStart => exact ⟨0, none, 0, [], Nat.zero_le _, rfl, rfl, rfl, DB.nil _ _, P3, OffG.refl _ _, B0⟩
  case round =>
    clear P3
    obtain ⟨j, qv, mv, acc, hj, rfl, hlen, hbo, hdb, hbx, hoff, hbel⟩ := hrel
    have hszr : w.heap.size + 3 ≤ wr.heap.size := by have := hoff.out.1; omega
    have hszN : N ≤ wr.heap.size := by have := hoff.out.1; omega
    have PW : Hid (wr.heap[w.heap.size]? = some (.cells #[.bool dd, .slice a B.length c, .slice b L.length d] 25 (0, 0))) := (hoff.out.2 _ (by omega) (fun e => by have := Option.some.inj e; omega)).trans P1.out
    have P2w : Hid (wr.heap[w.heap.size + 1]? = some (.cells #[.bool false, .slice none 0 0, .slice none 0 0] 25 (0, 0))) := (hoff.out.2 _ (by omega) (fun e => by have := Option.some.inj e; omega)).trans P2.out
    by_cases hjl : j < B.length
    · obtain ⟨bb, o, rfl, hlt, hc⟩ := Bs_some (TB.out.bel hbel.out) hjl
      obtain ⟨c1, c2⟩ := hc j hjl
      have HX := hid ((TB.out.bel hbel.out).2 _ (List.getElem_mem hjl))
      have hxl := HV.out _ (List.getElem_mem hjl)
      obtain ⟨x, hx⟩ : ∃ x, B[j] = x := ⟨_, rfl⟩
      rw [hx] at c1 c2 HX hxl
      have HXE := hid hx
      clear hx hc
      obtain ⟨W1, hW1⟩ : ∃ W1, wr.alloc (.cells #[.string x.nm, .slice x.a x.vs.length x.c] 47) = W1 := ⟨_, rfl⟩
      have hB1 : Below wr.heap.size wr W1 := by rw [← hW1]; exact (gr_new _ _).below
      have hs1 : wr.heap.size < W1.heap.size := by rw [← hW1]; simp
      have n0 : Hid (W1.heap[wr.heap.size]? = some (.cells #[.string x.nm, .slice x.a x.vs.length x.c] 47 (0, 0))) := by unfold Hid; rw [← hW1]; exact new_at _ _
      have BW1 : Hid (Below w.heap.size w W1) := hbel.out.trans (hB1.mono hbel.out.size)
      have DW1 := hid (hdb.out.keep hB1)
      have BX1 := hid (kept hbx.out (by omega) hB1)
      have OF1 := hid (hoff.out.bel hB1)
      have HXA : AtAt W1 (.slice x.a x.vs.length x.c) x.vs := AtAt.bel HX.out hB1
      have KR : Hid (∀ W, Below W1.heap.size W1 W → Calls Tryz.prog 55 #[.slice x.a x.vs.length x.c, .int .i64 k] W fun e w' => ∃ v, e = .returned v ∧ AtAt w' v (M.rename x.vs k) ∧ Fresh W.heap.size v ∧ Below W.heap.size W w') := fun W hb => rename_new W _ x.vs k (HXA.bel hb) (by omega)
      obtain ⟨n1, n2, nf⟩ := cells2 n0.out
      obtain ⟨y1, y2, y3, yf⟩ := cells3 BX1.out
      have hdr : W1.drew.heap.size = W1.heap.size := rfl
      have hwW1 : wr.heap.size < W1.heap.size := hs1
      have hgW1 : w.heap.size + 2 < wr.heap.size := by omega
      have hwg : wr.heap.size ≠ w.heap.size + 2 := by omega
      have hrn : Hid (∀ i, (Value.slice qv j mv).ownBlock = some i → ¬ (i = wr.heap.size ∨ i = w.heap.size + 2)) := fun i hi h => by
        have h1 := RowK.blk hdb.out.1 i hi
        omega
      have hgW1 : w.heap.size + 2 < W1.heap.size := by omega
      go_wp2_with fail
      clear hW1 c1 c2 n1 n2 nf y1 y2 y3 yf
      have KH : Hid (∀ W : World, W.heap[wr.heap.size]? = some (.cells #[.string x.nm, .slice x.a x.vs.length x.c] 47 (0, 0)) → (W.cell? ⟨wr.heap.size, 0, none⟩ = some (.string x.nm) ∧ W.cell? ⟨wr.heap.size, 1, none⟩ = some (.slice x.a x.vs.length x.c))) := fun W hb => by
        obtain ⟨y0, y1, _⟩ := cells2 hb
        exact ⟨y0, y1⟩
      refine wp_region_held_drew (S := fun W => W.cell? ⟨wr.heap.size, 0, none⟩ = some (.string x.nm) ∧ W.cell? ⟨wr.heap.size, 1, none⟩ = some (.slice x.a x.vs.length x.c)) (by kernel_rfl) (KH.out _ n0.out) (fun hHeld => ?_)
      have Bh0 : Hid (Below W1.heap.size W1 W1.drew) := (Gr.refl W1).drew.below
      refine tk 0 ⟨some 20, .fieldAddr 25 (.tmp 5) 1, 0, "demote.go:52", #[], none⟩ (v := ?_) hHeld ?_ ?_
      rotate_left
      · intro w hSw; (try dsimp only at hSw); go_simp; (try with_reducible rfl)
      simp only [Act.put, List.setIfInBounds_toArray, List.set_cons_zero, List.set_cons_succ]
      refine tk 2 ⟨some 22, .fieldAddr 47 (.tmp 7) 0, 0, "demote.go:52", #[], none⟩ (v := ?_) hHeld ?_ ?_
      rotate_left
      · intro w hSw; (try dsimp only at hSw); go_simp; (try with_reducible rfl)
      simp only [Act.put, List.setIfInBounds_toArray, List.set_cons_zero, List.set_cons_succ]
      refine tk 3 ⟨some 23, .load 9 (.tmp 22), 9, "demote.go:52", #[⟨2, .data⟩], none⟩ (v := ?_) hHeld ?_ ?_
      rotate_left
      · intro w hSw; (try dsimp only at hSw); go_simp; (try with_reducible rfl)
      simp only [Act.put, List.setIfInBounds_toArray, List.set_cons_zero, List.set_cons_succ]
      refine tk 4 ⟨some 24, .fieldAddr 47 (.tmp 7) 1, 0, "demote.go:52", #[], none⟩ (v := ?_) hHeld ?_ ?_
      rotate_left
      · intro w hSw; (try dsimp only at hSw); go_simp; (try with_reducible rfl)
      simp only [Act.put, List.setIfInBounds_toArray, List.set_cons_zero, List.set_cons_succ]
      refine tk 5 ⟨some 25, .load 29 (.tmp 24), 29, "demote.go:52", #[⟨4, .data⟩], none⟩ (v := ?_) hHeld ?_ ?_
      rotate_left
      · intro w hSw; (try dsimp only at hSw); go_simp; (try with_reducible rfl)
      simp only [Act.put, List.setIfInBounds_toArray, List.set_cons_zero, List.set_cons_succ]
      refine tk 6 ⟨some 26, .move (.tmp 1), 3, "demote.go:52", #[], none⟩ (v := ?_) hHeld ?_ ?_
      rotate_left
      · intro w hSw; (try dsimp only at hSw); go_simp; (try with_reducible rfl)
      simp only [Act.put, List.setIfInBounds_toArray, List.set_cons_zero, List.set_cons_succ]
      refine wpAnyH_ready (rs := [1, 7]) (by kernel_rfl) (by simp) ?_
      refine AllReadyH.cons (o := ⟨some 21, .load 22 (.tmp 20), 22, "demote.go:52", #[⟨0, .data⟩], none⟩) rfl (fun K hK => ?_) (AllReadyH.cons (o := ⟨some 27, .call { callee := .value (.func 55), args := #[.tmp 25, .tmp 26], argTypes := #[29, 3] }, 29, "demote.go:52", #[⟨5, .data⟩, ⟨6, .data⟩], none⟩) rfl (fun K hK => ?_) AllReadyH.nil)
      · obtain ⟨o0, o1, o2, _⟩ := cells3 (BX1.out)
        go_simp
        clear o0 o1 o2
        refine hK.out _ _ (KH.out _ (n0.out)) (fun hHeld => ?_)
        clear hK
        refine wpAnyH_ready (rs := [7]) (by kernel_rfl) (by simp) ?_
        refine AllReadyH.cons (o := ⟨some 27, .call { callee := .value (.func 55), args := #[.tmp 25, .tmp 26], argTypes := #[29, 3] }, 29, "demote.go:52", #[⟨5, .data⟩, ⟨6, .data⟩], none⟩) rfl (fun K hK => ?_) AllReadyH.nil
        go_simp
        refine (KR.out _ Bh0.out).mono ?_
        rintro e z102 ⟨v102, rfl, hA102, hf102, hb⟩
        obtain ⟨q102, m102, rfl⟩ := hA102.form
        have Bh102 := hid (Bh0.out.trans (hb.mono Bh0.out.size))
        clear hb
        refine hK.out _ _ (KH.out _ (kept n0.out hwW1 Bh102.out)) (fun hHeld => ?_)
        clear hK
        refine tk 8 ⟨some 28, .build 47 #[(0, .tmp 23), (1, .tmp 27)], 47, "demote.go:52", #[⟨3, .data⟩, ⟨7, .data⟩], none⟩ (v := ?_) hHeld ?_ ?_
        rotate_left
        · intro w hSw; (try dsimp only at hSw); go_simp; (try with_reducible rfl)
        simp only [Act.put, List.setIfInBounds_toArray, List.set_cons_zero, List.set_cons_succ]
        refine wpAnyH_ready (rs := [9]) (by kernel_rfl) (by simp) ?_
        refine AllReadyH.cons (o := ⟨some 29, .buildSlice 22 1 #[(0, .tmp 28)], 22, "demote.go:52", #[⟨8, .data⟩], none⟩) rfl (fun K hK => ?_) AllReadyH.nil
        obtain ⟨z103, hz103⟩ : ∃ W, z102.alloc (.cells #[.string x.nm, .slice q102 (M.rename x.vs k).length m102] 47 : Obj) = W := ⟨_, rfl⟩
        go_simp
        have hb : Below z102.heap.size z102 z103 := by rw [← hz103]; exact (gr_new _ _).below
        have hs103 : z103.heap.size = z102.heap.size + 1 := by rw [← hz103]; simp
        have NF : Hid (∀ i u, (bc ⟨x.nm, M.rename x.vs k, q102, m102⟩)[i]? = some u → z103.cell? ((⟨z102.heap.size, 0, none⟩ : Addr).add i) = some u) := by unfold Hid; rw [← hz103]; exact new_bc
        have Bh103 := hid (Bh102.out.trans (hb.mono Bh102.out.size))
        have HG103 := hid hb
        clear hb hz103
        refine hK.out _ _ (KH.out _ (kept n0.out hwW1 Bh103.out)) (fun hHeld => ?_)
        clear hK
        refine wpAnyH_ready (rs := [10]) (by kernel_rfl) (by simp) ?_
        refine AllReadyH.cons (o := ⟨some 30, .call { callee := .builtin .append, args := #[.tmp 21, .tmp 29], argTypes := #[22, 22] }, 22, "demote.go:52", #[⟨1, .data⟩, ⟨9, .data⟩, ⟨7, .chain⟩], none⟩) rfl (fun K hK => ?_) AllReadyH.nil
        refine step_apdB (by rfl) _ _ (by rfl) N (.slice qv j mv) acc (by rfl) (DW1.out.keep Bh103.out).1 ⟨z102.heap.size, 0, none⟩ 1 ⟨x.nm, M.rename x.vs k, q102, m102⟩ (by rfl) NF.out (by have := hlen.out; omega) (by have := Bh103.out.size; omega) ?_
        intro q104 m104 z104 hr104 hg104 ha104
        rw [hlen.out] at hr104 ha104 ⊢
        have el104 : Hid (z104.heap[wr.heap.size]? = some (.cells #[.string x.nm, .slice x.a x.vs.length x.c] 47 (0, 0))) := grown_at (kept n0.out hwW1 Bh103.out) hg104 (fun e => hrn.out _ e (.inl rfl))
        have bx104 := hid (grown_at (kept BX1.out hgW1 Bh103.out) hg104 (fun e => hrn.out _ e (.inr rfl)))
        refine hK.out _ _ (KH.out _ el104.out) (fun hHeld => ?_)
        clear hK
        refine tk 11 ⟨some 31, .fieldAddr 25 (.tmp 5) 1, 0, "demote.go:52", #[⟨0, .phase⟩, ⟨1, .phase⟩, ⟨2, .phase⟩, ⟨3, .phase⟩, ⟨4, .phase⟩, ⟨5, .phase⟩, ⟨6, .phase⟩, ⟨7, .phase⟩, ⟨8, .phase⟩, ⟨9, .phase⟩, ⟨10, .phase⟩], none⟩ (v := ?_) hHeld ?_ ?_
        rotate_left
        · intro w hSw; (try dsimp only at hSw); go_simp; (try with_reducible rfl)
        simp only [Act.put, List.setIfInBounds_toArray, List.set_cons_zero, List.set_cons_succ]
        refine wpAnyH_ready (rs := [12]) (by kernel_rfl) (by simp) ?_
        refine AllReadyH.cons (o := ⟨none, .store 22 (.tmp 31) (.tmp 30), 0, "demote.go:52", #[⟨11, .data⟩, ⟨10, .data⟩, ⟨10, .chain⟩, ⟨0, .phase⟩, ⟨1, .phase⟩, ⟨2, .phase⟩, ⟨3, .phase⟩, ⟨4, .phase⟩, ⟨5, .phase⟩, ⟨6, .phase⟩, ⟨7, .phase⟩, ⟨8, .phase⟩, ⟨9, .phase⟩, ⟨10, .phase⟩], none⟩) rfl (fun K hK => ?_) AllReadyH.nil
        obtain ⟨o0, o1, o2, _⟩ := cells3 bx104.out
        go_simp
        clear o0 o1 o2
        refine hK.out _ _ (KH.out _ (by rw [set_blk _ _ _ _ _ hwg]; exact el104.out)) (fun hHeld => ?_)
        clear hK
        refine wpAnyH_done (by kernel_rfl) ?_ _
        clear hHeld KH
        have D7 := DB.grow (DW1.out.keep Bh103.out) (x := ⟨x.nm, M.rename x.vs k, q102, m102⟩) (oneB_new (B := acc) (n := W1.heap.size) (AtAt.bel hA102 HG103.out) hf102 (by omega) (fun i hi => (RowK.blk DW1.out.1 i hi).2)) hr104 hg104 ha104
        have O7 : OffG (some (w.heap.size + 2)) W0 z104 := ((OF1.out.bel Bh103.out).own hg104 (fun i hi => by have := (RowK.blk DW1.out.1 i hi).1; omega))
        have B7 : Below w.heap.size w z104 := (BW1.out.trans (Bh103.out.mono BW1.out.size)).grown hg104 (by have := Bh103.out.size; omega) (fun i hi => by have := (RowK.blk DW1.out.1 i hi).1; omega)
        go_wp2
        refine ⟨⟨j + 1, q104, m104, acc ++ [⟨x.nm, M.rename x.vs k, q102, m102⟩], by omega, by go_num, (show _ = _ by rw [List.length_append, hlen.out]; rfl), hid (aged_step hbo.out hjl HXE.out), hid (DB.set (g := w.heap.size + 2) (p := 1) D7 (by omega)), hid (box_put bx104.out _), hid O7.set, hid (B7.setCell (p := ⟨w.heap.size + 2, 1, none⟩) (show w.heap.size ≤ w.heap.size + 2 by omega) _)⟩, by simp [intOf]; omega⟩
      · go_simp
        refine (KR.out _ Bh0.out).mono ?_
        rintro e z106 ⟨v106, rfl, hA106, hf106, hb⟩
        obtain ⟨q106, m106, rfl⟩ := hA106.form
        have Bh106 := hid (Bh0.out.trans (hb.mono Bh0.out.size))
        clear hb
        refine hK.out _ _ (KH.out _ (kept n0.out hwW1 Bh106.out)) (fun hHeld => ?_)
        clear hK
        refine tk 8 ⟨some 28, .build 47 #[(0, .tmp 23), (1, .tmp 27)], 47, "demote.go:52", #[⟨3, .data⟩, ⟨7, .data⟩], none⟩ (v := ?_) hHeld ?_ ?_
        rotate_left
        · intro w hSw; (try dsimp only at hSw); go_simp; (try with_reducible rfl)
        simp only [Act.put, List.setIfInBounds_toArray, List.set_cons_zero, List.set_cons_succ]
        refine wpAnyH_ready (rs := [1, 9]) (by kernel_rfl) (by simp) ?_
        refine AllReadyH.cons (o := ⟨some 21, .load 22 (.tmp 20), 22, "demote.go:52", #[⟨0, .data⟩], none⟩) rfl (fun K hK => ?_) (AllReadyH.cons (o := ⟨some 29, .buildSlice 22 1 #[(0, .tmp 28)], 22, "demote.go:52", #[⟨8, .data⟩], none⟩) rfl (fun K hK => ?_) AllReadyH.nil)
        · obtain ⟨o0, o1, o2, _⟩ := cells3 (kept BX1.out hgW1 Bh106.out)
          go_simp
          clear o0 o1 o2
          refine hK.out _ _ (KH.out _ (kept n0.out hwW1 Bh106.out)) (fun hHeld => ?_)
          clear hK
          refine wpAnyH_ready (rs := [9]) (by kernel_rfl) (by simp) ?_
          refine AllReadyH.cons (o := ⟨some 29, .buildSlice 22 1 #[(0, .tmp 28)], 22, "demote.go:52", #[⟨8, .data⟩], none⟩) rfl (fun K hK => ?_) AllReadyH.nil
          obtain ⟨z108, hz108⟩ : ∃ W, z106.alloc (.cells #[.string x.nm, .slice q106 (M.rename x.vs k).length m106] 47 : Obj) = W := ⟨_, rfl⟩
          go_simp
          have hb : Below z106.heap.size z106 z108 := by rw [← hz108]; exact (gr_new _ _).below
          have hs108 : z108.heap.size = z106.heap.size + 1 := by rw [← hz108]; simp
          have NF : Hid (∀ i u, (bc ⟨x.nm, M.rename x.vs k, q106, m106⟩)[i]? = some u → z108.cell? ((⟨z106.heap.size, 0, none⟩ : Addr).add i) = some u) := by unfold Hid; rw [← hz108]; exact new_bc
          have Bh108 := hid (Bh106.out.trans (hb.mono Bh106.out.size))
          have HG108 := hid hb
          clear hb hz108
          refine hK.out _ _ (KH.out _ (kept n0.out hwW1 Bh108.out)) (fun hHeld => ?_)
          clear hK
          refine wpAnyH_ready (rs := [10]) (by kernel_rfl) (by simp) ?_
          refine AllReadyH.cons (o := ⟨some 30, .call { callee := .builtin .append, args := #[.tmp 21, .tmp 29], argTypes := #[22, 22] }, 22, "demote.go:52", #[⟨1, .data⟩, ⟨9, .data⟩, ⟨7, .chain⟩], none⟩) rfl (fun K hK => ?_) AllReadyH.nil
          refine step_apdB (by rfl) _ _ (by rfl) N (.slice qv j mv) acc (by rfl) (DW1.out.keep Bh108.out).1 ⟨z106.heap.size, 0, none⟩ 1 ⟨x.nm, M.rename x.vs k, q106, m106⟩ (by rfl) NF.out (by have := hlen.out; omega) (by have := Bh108.out.size; omega) ?_
          intro q109 m109 z109 hr109 hg109 ha109
          rw [hlen.out] at hr109 ha109 ⊢
          have el109 : Hid (z109.heap[wr.heap.size]? = some (.cells #[.string x.nm, .slice x.a x.vs.length x.c] 47 (0, 0))) := grown_at (kept n0.out hwW1 Bh108.out) hg109 (fun e => hrn.out _ e (.inl rfl))
          have bx109 := hid (grown_at (kept BX1.out hgW1 Bh108.out) hg109 (fun e => hrn.out _ e (.inr rfl)))
          refine hK.out _ _ (KH.out _ el109.out) (fun hHeld => ?_)
          clear hK
          refine tk 11 ⟨some 31, .fieldAddr 25 (.tmp 5) 1, 0, "demote.go:52", #[⟨0, .phase⟩, ⟨1, .phase⟩, ⟨2, .phase⟩, ⟨3, .phase⟩, ⟨4, .phase⟩, ⟨5, .phase⟩, ⟨6, .phase⟩, ⟨7, .phase⟩, ⟨8, .phase⟩, ⟨9, .phase⟩, ⟨10, .phase⟩], none⟩ (v := ?_) hHeld ?_ ?_
          rotate_left
          · intro w hSw; (try dsimp only at hSw); go_simp; (try with_reducible rfl)
          simp only [Act.put, List.setIfInBounds_toArray, List.set_cons_zero, List.set_cons_succ]
          refine wpAnyH_ready (rs := [12]) (by kernel_rfl) (by simp) ?_
          refine AllReadyH.cons (o := ⟨none, .store 22 (.tmp 31) (.tmp 30), 0, "demote.go:52", #[⟨11, .data⟩, ⟨10, .data⟩, ⟨10, .chain⟩, ⟨0, .phase⟩, ⟨1, .phase⟩, ⟨2, .phase⟩, ⟨3, .phase⟩, ⟨4, .phase⟩, ⟨5, .phase⟩, ⟨6, .phase⟩, ⟨7, .phase⟩, ⟨8, .phase⟩, ⟨9, .phase⟩, ⟨10, .phase⟩], none⟩) rfl (fun K hK => ?_) AllReadyH.nil
          obtain ⟨o0, o1, o2, _⟩ := cells3 bx109.out
          go_simp
          clear o0 o1 o2
          refine hK.out _ _ (KH.out _ (by rw [set_blk _ _ _ _ _ hwg]; exact el109.out)) (fun hHeld => ?_)
          clear hK
          refine wpAnyH_done (by kernel_rfl) ?_ _
          clear hHeld KH
          have D7 := DB.grow (DW1.out.keep Bh108.out) (x := ⟨x.nm, M.rename x.vs k, q106, m106⟩) (oneB_new (B := acc) (n := W1.heap.size) (AtAt.bel hA106 HG108.out) hf106 (by omega) (fun i hi => (RowK.blk DW1.out.1 i hi).2)) hr109 hg109 ha109
          have O7 : OffG (some (w.heap.size + 2)) W0 z109 := ((OF1.out.bel Bh108.out).own hg109 (fun i hi => by have := (RowK.blk DW1.out.1 i hi).1; omega))
          have B7 : Below w.heap.size w z109 := (BW1.out.trans (Bh108.out.mono BW1.out.size)).grown hg109 (by have := Bh108.out.size; omega) (fun i hi => by have := (RowK.blk DW1.out.1 i hi).1; omega)
          go_wp2
          refine ⟨⟨j + 1, q109, m109, acc ++ [⟨x.nm, M.rename x.vs k, q106, m106⟩], by omega, by go_num, (show _ = _ by rw [List.length_append, hlen.out]; rfl), hid (aged_step hbo.out hjl HXE.out), hid (DB.set (g := w.heap.size + 2) (p := 1) D7 (by omega)), hid (box_put bx109.out _), hid O7.set, hid (B7.setCell (p := ⟨w.heap.size + 2, 1, none⟩) (show w.heap.size ≤ w.heap.size + 2 by omega) _)⟩, by simp [intOf]; omega⟩
        · obtain ⟨z111, hz111⟩ : ∃ W, z106.alloc (.cells #[.string x.nm, .slice q106 (M.rename x.vs k).length m106] 47 : Obj) = W := ⟨_, rfl⟩
          go_simp
          have hb : Below z106.heap.size z106 z111 := by rw [← hz111]; exact (gr_new _ _).below
          have hs111 : z111.heap.size = z106.heap.size + 1 := by rw [← hz111]; simp
          have NF : Hid (∀ i u, (bc ⟨x.nm, M.rename x.vs k, q106, m106⟩)[i]? = some u → z111.cell? ((⟨z106.heap.size, 0, none⟩ : Addr).add i) = some u) := by unfold Hid; rw [← hz111]; exact new_bc
          have Bh111 := hid (Bh106.out.trans (hb.mono Bh106.out.size))
          have HG111 := hid hb
          clear hb hz111
          refine hK.out _ _ (KH.out _ (kept n0.out hwW1 Bh111.out)) (fun hHeld => ?_)
          clear hK
          refine wpAnyH_ready (rs := [1]) (by kernel_rfl) (by simp) ?_
          refine AllReadyH.cons (o := ⟨some 21, .load 22 (.tmp 20), 22, "demote.go:52", #[⟨0, .data⟩], none⟩) rfl (fun K hK => ?_) AllReadyH.nil
          obtain ⟨o0, o1, o2, _⟩ := cells3 (kept BX1.out hgW1 Bh111.out)
          go_simp
          clear o0 o1 o2
          refine hK.out _ _ (KH.out _ (kept n0.out hwW1 Bh111.out)) (fun hHeld => ?_)
          clear hK
          refine wpAnyH_ready (rs := [10]) (by kernel_rfl) (by simp) ?_
          refine AllReadyH.cons (o := ⟨some 30, .call { callee := .builtin .append, args := #[.tmp 21, .tmp 29], argTypes := #[22, 22] }, 22, "demote.go:52", #[⟨1, .data⟩, ⟨9, .data⟩, ⟨7, .chain⟩], none⟩) rfl (fun K hK => ?_) AllReadyH.nil
          refine step_apdB (by rfl) _ _ (by rfl) N (.slice qv j mv) acc (by rfl) (DW1.out.keep Bh111.out).1 ⟨z106.heap.size, 0, none⟩ 1 ⟨x.nm, M.rename x.vs k, q106, m106⟩ (by rfl) NF.out (by have := hlen.out; omega) (by have := Bh111.out.size; omega) ?_
          intro q113 m113 z113 hr113 hg113 ha113
          rw [hlen.out] at hr113 ha113 ⊢
          have el113 : Hid (z113.heap[wr.heap.size]? = some (.cells #[.string x.nm, .slice x.a x.vs.length x.c] 47 (0, 0))) := grown_at (kept n0.out hwW1 Bh111.out) hg113 (fun e => hrn.out _ e (.inl rfl))
          have bx113 := hid (grown_at (kept BX1.out hgW1 Bh111.out) hg113 (fun e => hrn.out _ e (.inr rfl)))
          refine hK.out _ _ (KH.out _ el113.out) (fun hHeld => ?_)
          clear hK
          refine tk 11 ⟨some 31, .fieldAddr 25 (.tmp 5) 1, 0, "demote.go:52", #[⟨0, .phase⟩, ⟨1, .phase⟩, ⟨2, .phase⟩, ⟨3, .phase⟩, ⟨4, .phase⟩, ⟨5, .phase⟩, ⟨6, .phase⟩, ⟨7, .phase⟩, ⟨8, .phase⟩, ⟨9, .phase⟩, ⟨10, .phase⟩], none⟩ (v := ?_) hHeld ?_ ?_
          rotate_left
          · intro w hSw; (try dsimp only at hSw); go_simp; (try with_reducible rfl)
          simp only [Act.put, List.setIfInBounds_toArray, List.set_cons_zero, List.set_cons_succ]
          refine wpAnyH_ready (rs := [12]) (by kernel_rfl) (by simp) ?_
          refine AllReadyH.cons (o := ⟨none, .store 22 (.tmp 31) (.tmp 30), 0, "demote.go:52", #[⟨11, .data⟩, ⟨10, .data⟩, ⟨10, .chain⟩, ⟨0, .phase⟩, ⟨1, .phase⟩, ⟨2, .phase⟩, ⟨3, .phase⟩, ⟨4, .phase⟩, ⟨5, .phase⟩, ⟨6, .phase⟩, ⟨7, .phase⟩, ⟨8, .phase⟩, ⟨9, .phase⟩, ⟨10, .phase⟩], none⟩) rfl (fun K hK => ?_) AllReadyH.nil
          obtain ⟨o0, o1, o2, _⟩ := cells3 bx113.out
          go_simp
          clear o0 o1 o2
          refine hK.out _ _ (KH.out _ (by rw [set_blk _ _ _ _ _ hwg]; exact el113.out)) (fun hHeld => ?_)
          clear hK
          refine wpAnyH_done (by kernel_rfl) ?_ _
          clear hHeld KH
          have D7 := DB.grow (DW1.out.keep Bh111.out) (x := ⟨x.nm, M.rename x.vs k, q106, m106⟩) (oneB_new (B := acc) (n := W1.heap.size) (AtAt.bel hA106 HG111.out) hf106 (by omega) (fun i hi => (RowK.blk DW1.out.1 i hi).2)) hr113 hg113 ha113
          have O7 : OffG (some (w.heap.size + 2)) W0 z113 := ((OF1.out.bel Bh111.out).own hg113 (fun i hi => by have := (RowK.blk DW1.out.1 i hi).1; omega))
          have B7 : Below w.heap.size w z113 := (BW1.out.trans (Bh111.out.mono BW1.out.size)).grown hg113 (by have := Bh111.out.size; omega) (fun i hi => by have := (RowK.blk DW1.out.1 i hi).1; omega)
          go_wp2
          refine ⟨⟨j + 1, q113, m113, acc ++ [⟨x.nm, M.rename x.vs k, q106, m106⟩], by omega, by go_num, (show _ = _ by rw [List.length_append, hlen.out]; rfl), hid (aged_step hbo.out hjl HXE.out), hid (DB.set (g := w.heap.size + 2) (p := 1) D7 (by omega)), hid (box_put bx113.out _), hid O7.set, hid (B7.setCell (p := ⟨w.heap.size + 2, 1, none⟩) (show w.heap.size ≤ w.heap.size + 2 by omega) _)⟩, by simp [intOf]; omega⟩
    · have hfull : Hid (bndOf acc = M.agedV s.vs k) := by
        unfold Hid
        rw [hbo.out, List.take_of_length_le (by rw [bndOf_len]; omega), HSV.out]
      obtain ⟨y1, y2, y3, yf⟩ := cells3 PW.out
      obtain ⟨W6, hW6⟩ : ∃ W6, W6 = wr := ⟨_, rfl⟩
      rw [← hW6] at hdb hbx PW P2w hbel hszr hszN y1 y2 y3 yf ⊢
      clear hoff hbo hW6
      obtain ⟨N6, hN6⟩ : ∃ N6, W6.heap.size = N6 := ⟨_, rfl⟩
      have HN6 := hid hN6
      go_wp2
      clear y1 y2 y3 yf
      go_loopw [36] (fun i w' => ∃ (i' n : Nat) (ql : Option Addr) (ml : Nat) (acL : List Lcl), i' ≤ L.length ∧ n ≤ i' ∧ i = .int .i64 i' ∧ Hid (acL.length = n) ∧ Hid (lclOf acL = M.dropL ((lclOf L).take i') k) ∧ Hid (DL N6 w' (.slice ql n ml) acL) ∧ Hid (w'.heap[w.heap.size + 2]? = some (.cells #[.bool dd, .slice qv j mv, .slice ql n ml] 25 (0, 0))) ∧ Hid (OffG (some (w.heap.size + 2)) W6 w') ∧ Hid (Below w.heap.size w w')) (fun i _ => L.length - (intOf i).toNat)
      case atStart => exact ⟨0, 0, none, 0, [], Nat.zero_le _, Nat.le_refl _, rfl, rfl, rfl, DL.nil _ _, hbx, OffG.refl _ _, hbel⟩
      case round =>
        clear hbx hbel
        obtain ⟨i', n, ql, ml, acL, hj', hni, rfl, hlenL, hbo, hdl, hbx, hoff, hbel⟩ := hrel
        have hszr' : N6 ≤ wr.heap.size := by have := hoff.out.1; omega
        have hszr2 : w.heap.size + 3 ≤ wr.heap.size := by omega
        by_cases hjl' : i' < L.length
        · obtain ⟨bb, o, rfl, hlt, hc⟩ := Ls_some (TL.out.bel hbel.out) hjl'
          obtain ⟨c1, c2, c3, c4⟩ := hc i' hjl'
          have HX := hid ((TL.out.bel hbel.out).2 _ (List.getElem_mem hjl'))
          have hxl := HL.out _ (List.getElem_mem hjl')
          have HMX := hid (HMS.out _ (List.getElem_mem hjl'))
          obtain ⟨x, hx⟩ : ∃ x, L[i'] = x := ⟨_, rfl⟩
          rw [hx] at c1 c2 c3 c4 HX hxl HMX
          have HXE := hid hx
          have HXL := hid hxl
          clear hx hc hxl
          obtain ⟨W1, hW1⟩ : ∃ W1, wr.alloc (.cells #[.int .i64 x.x.k, .int .i64 x.x.n, .slice x.fa x.s.fs.length x.fn, .slice x.pa x.s.pr.length x.pn] 36) = W1 := ⟨_, rfl⟩
          have hB1 : Below wr.heap.size wr W1 := by rw [← hW1]; exact (gr_new _ _).below
          have hs1 : wr.heap.size < W1.heap.size := by rw [← hW1]; simp
          have n0 : Hid (W1.heap[wr.heap.size]? = some (.cells #[.int .i64 x.x.k, .int .i64 x.x.n, .slice x.fa x.s.fs.length x.fn, .slice x.pa x.s.pr.length x.pn] 36 (0, 0))) := by unfold Hid; rw [← hW1]; exact new_at _ _
          have BW1 : Hid (Below w.heap.size w W1) := hbel.out.trans (hB1.mono hbel.out.size)
          have DW1 := hid (hdl.out.keep hB1)
          have BX1 := hid (kept hbx.out (by omega) hB1)
          have OF1 := hid (hoff.out.bel hB1)
          have HX1 := hid (HX.out.ext (Ext.of_below hB1))
          have KN : Hid (∀ W, Below W1.heap.size W1 W → Calls Tryz.prog 33 #[.int .i64 k] W fun e w' => e = .returned (.agg #[.int .i64 4, .int .i64 k]) ∧ Below W.heap.size W w') := fun W hb => newest_any k W
          have hne : ∀ W, (binOp .neq 34 (.agg #[.int .i64 x.x.k, .int .i64 x.x.n]) (.agg #[.int .i64 4, .int .i64 k])).run Tryz.prog W = .ok (.bool (!decide (x.x = ⟨4, k⟩))) W := fun W => neq_atm x.x ⟨4, k⟩ W
          obtain ⟨n1, n2, n3, n4, nf⟩ := cells4 n0.out
          have hdr : W1.drew.heap.size = W1.heap.size := rfl
          cases htt : (!decide (x.x = (⟨4, k⟩ : M.Atm))) with
          | false =>
            rw [htt] at hne
            have HD : Hid (x.x = ⟨4, k⟩) := by unfold Hid; simpa using htt
            clear htt
            go_wp2_with fail
            clear hW1 c1 c2 c3 c4 n1 n2 n3 n4 nf
            have KH : Hid (∀ W : World, W.heap[wr.heap.size]? = some (.cells #[.int .i64 x.x.k, .int .i64 x.x.n, .slice x.fa x.s.fs.length x.fn, .slice x.pa x.s.pr.length x.pn] 36 (0, 0)) → (W.cell? ⟨wr.heap.size, 0, none⟩ = some (.int .i64 x.x.k) ∧ W.cell? ⟨wr.heap.size, 1, none⟩ = some (.int .i64 x.x.n) ∧ W.cell? ⟨wr.heap.size, 2, none⟩ = some (.slice x.fa x.s.fs.length x.fn) ∧ W.cell? ⟨wr.heap.size, 3, none⟩ = some (.slice x.pa x.s.pr.length x.pn))) := fun W hb => by
              obtain ⟨y1, y2, y3, y4, _⟩ := cells4 hb
              exact ⟨y1, y2, y3, y4⟩
            refine wp_region_held_drew (S := fun W => W.cell? ⟨wr.heap.size, 0, none⟩ = some (.int .i64 x.x.k) ∧ W.cell? ⟨wr.heap.size, 1, none⟩ = some (.int .i64 x.x.n) ∧ W.cell? ⟨wr.heap.size, 2, none⟩ = some (.slice x.fa x.s.fs.length x.fn) ∧ W.cell? ⟨wr.heap.size, 3, none⟩ = some (.slice x.pa x.s.pr.length x.pn)) (by kernel_rfl) (KH.out _ n0.out) (fun hHeld => ?_)
            have Bh0 : Hid (Below W1.heap.size W1 W1.drew) := (Gr.refl W1).drew.below
            refine tk 0 ⟨some 40, .fieldAddr 36 (.tmp 9) 0, 0, "demote.go:55", #[], none⟩ (v := ?_) hHeld ?_ ?_
            rotate_left
            · intro w hSw; (try dsimp only at hSw); go_simp; (try with_reducible rfl)
            simp only [Act.put, List.setIfInBounds_toArray, List.set_cons_zero, List.set_cons_succ]
            refine tk 1 ⟨some 41, .load 34 (.tmp 40), 34, "demote.go:55", #[⟨0, .data⟩], none⟩ (v := ?_) hHeld ?_ ?_
            rotate_left
            · intro w hSw; (try dsimp only at hSw); go_simp; (try with_reducible rfl)
            simp only [Act.put, List.setIfInBounds_toArray, List.set_cons_zero, List.set_cons_succ]
            refine tk 2 ⟨some 42, .move (.tmp 1), 3, "demote.go:55", #[], none⟩ (v := ?_) hHeld ?_ ?_
            rotate_left
            · intro w hSw; (try dsimp only at hSw); go_simp; (try with_reducible rfl)
            simp only [Act.put, List.setIfInBounds_toArray, List.set_cons_zero, List.set_cons_succ]
            refine wpAnyH_ready (rs := [3]) (by kernel_rfl) (by simp) ?_
            refine AllReadyH.cons (o := ⟨some 43, .call { callee := .value (.func 33), args := #[.tmp 42], argTypes := #[3] }, 34, "demote.go:55", #[⟨2, .data⟩], none⟩) rfl (fun K hK => ?_) AllReadyH.nil
            go_simp
            refine (KN.out _ Bh0.out).mono ?_
            rintro e w6 ⟨rfl, hb6⟩
            have hbb : Below W1.heap.size W1 w6 := Bh0.out.trans hb6
            have hs6 := hbb.size
            refine hK.out _ _ (KH.out _ (kept n0.out hs1 hbb)) (fun hHeld => ?_)
            clear hK
            refine tk 4 ⟨some 44, .binOp .neq 34 (.tmp 41) (.tmp 43) 34, 4, "demote.go:55", #[⟨1, .data⟩, ⟨3, .data⟩], none⟩ (v := ?_) hHeld ?_ ?_
            rotate_left
            · intro w hSw; (try dsimp only at hSw); go_simp; (try with_reducible rfl)
            simp only [Act.put, List.setIfInBounds_toArray, List.set_cons_zero, List.set_cons_succ]
            refine wpAnyH_done (by kernel_rfl) ?_ _
            clear hHeld KH Bh0
            have N6' := hid (kept n0.out (by omega) hbb)
            have BW6 : Hid (Below w.heap.size w w6) := BW1.out.trans (hbb.mono BW1.out.size)
            have DW6 := hid (DW1.out.keep hbb)
            have BX6 := hid (kept BX1.out (by omega) hbb)
            have OF6 := hid (OF1.out.bel hbb)
            have HX6 := hid (HX1.out.ext (Ext.of_below hbb))
            obtain ⟨z1, z2, z3, z4, zf⟩ := cells4 N6'.out
            obtain ⟨y1, y2, y3, yf⟩ := cells3 BX6.out
            clear hb6 hbb
            go_wp2
            exact ⟨⟨i' + 1, n, ql, ml, acL, by omega, by omega, by go_num, hlenL, hid (by rw [drop_take hjl' HXE.out, if_pos HD.out]; exact hbo.out), DW6, BX6, OF6, BW6⟩, by simp [intOf]; omega⟩
          | true =>
            rw [htt] at hne
            have HD : Hid (x.x ≠ ⟨4, k⟩) := by unfold Hid; simpa using htt
            clear htt
            go_wp2_with fail
            clear hW1 c1 c2 c3 c4 n1 n2 n3 n4 nf
            have KH : Hid (∀ W : World, W.heap[wr.heap.size]? = some (.cells #[.int .i64 x.x.k, .int .i64 x.x.n, .slice x.fa x.s.fs.length x.fn, .slice x.pa x.s.pr.length x.pn] 36 (0, 0)) → (W.cell? ⟨wr.heap.size, 0, none⟩ = some (.int .i64 x.x.k) ∧ W.cell? ⟨wr.heap.size, 1, none⟩ = some (.int .i64 x.x.n) ∧ W.cell? ⟨wr.heap.size, 2, none⟩ = some (.slice x.fa x.s.fs.length x.fn) ∧ W.cell? ⟨wr.heap.size, 3, none⟩ = some (.slice x.pa x.s.pr.length x.pn))) := fun W hb => by
              obtain ⟨y1, y2, y3, y4, _⟩ := cells4 hb
              exact ⟨y1, y2, y3, y4⟩
            refine wp_region_held_drew (S := fun W => W.cell? ⟨wr.heap.size, 0, none⟩ = some (.int .i64 x.x.k) ∧ W.cell? ⟨wr.heap.size, 1, none⟩ = some (.int .i64 x.x.n) ∧ W.cell? ⟨wr.heap.size, 2, none⟩ = some (.slice x.fa x.s.fs.length x.fn) ∧ W.cell? ⟨wr.heap.size, 3, none⟩ = some (.slice x.pa x.s.pr.length x.pn)) (by kernel_rfl) (KH.out _ n0.out) (fun hHeld => ?_)
            have Bh0 : Hid (Below W1.heap.size W1 W1.drew) := (Gr.refl W1).drew.below
            refine tk 0 ⟨some 40, .fieldAddr 36 (.tmp 9) 0, 0, "demote.go:55", #[], none⟩ (v := ?_) hHeld ?_ ?_
            rotate_left
            · intro w hSw; (try dsimp only at hSw); go_simp; (try with_reducible rfl)
            simp only [Act.put, List.setIfInBounds_toArray, List.set_cons_zero, List.set_cons_succ]
            refine tk 1 ⟨some 41, .load 34 (.tmp 40), 34, "demote.go:55", #[⟨0, .data⟩], none⟩ (v := ?_) hHeld ?_ ?_
            rotate_left
            · intro w hSw; (try dsimp only at hSw); go_simp; (try with_reducible rfl)
            simp only [Act.put, List.setIfInBounds_toArray, List.set_cons_zero, List.set_cons_succ]
            refine tk 2 ⟨some 42, .move (.tmp 1), 3, "demote.go:55", #[], none⟩ (v := ?_) hHeld ?_ ?_
            rotate_left
            · intro w hSw; (try dsimp only at hSw); go_simp; (try with_reducible rfl)
            simp only [Act.put, List.setIfInBounds_toArray, List.set_cons_zero, List.set_cons_succ]
            refine wpAnyH_ready (rs := [3]) (by kernel_rfl) (by simp) ?_
            refine AllReadyH.cons (o := ⟨some 43, .call { callee := .value (.func 33), args := #[.tmp 42], argTypes := #[3] }, 34, "demote.go:55", #[⟨2, .data⟩], none⟩) rfl (fun K hK => ?_) AllReadyH.nil
            go_simp
            refine (KN.out _ Bh0.out).mono ?_
            rintro e w6 ⟨rfl, hb6⟩
            have hbb : Below W1.heap.size W1 w6 := Bh0.out.trans hb6
            have hs6 := hbb.size
            refine hK.out _ _ (KH.out _ (kept n0.out hs1 hbb)) (fun hHeld => ?_)
            clear hK
            refine tk 4 ⟨some 44, .binOp .neq 34 (.tmp 41) (.tmp 43) 34, 4, "demote.go:55", #[⟨1, .data⟩, ⟨3, .data⟩], none⟩ (v := ?_) hHeld ?_ ?_
            rotate_left
            · intro w hSw; (try dsimp only at hSw); go_simp; (try with_reducible rfl)
            simp only [Act.put, List.setIfInBounds_toArray, List.set_cons_zero, List.set_cons_succ]
            refine wpAnyH_done (by kernel_rfl) ?_ _
            clear hHeld KH Bh0
            have N6' := hid (kept n0.out (by omega) hbb)
            have BW6 : Hid (Below w.heap.size w w6) := BW1.out.trans (hbb.mono BW1.out.size)
            have DW6 := hid (DW1.out.keep hbb)
            have BX6 := hid (kept BX1.out (by omega) hbb)
            have OF6 := hid (OF1.out.bel hbb)
            have HX6 := hid (HX1.out.ext (Ext.of_below hbb))
            obtain ⟨z1, z2, z3, z4, zf⟩ := cells4 N6'.out
            obtain ⟨y1, y2, y3, yf⟩ := cells3 BX6.out
            clear hb6 hbb
            obtain ⟨W9, hW9⟩ : ∃ W, w6 = W := ⟨_, rfl⟩
            rw [hW9] at N6' BW6 DW6 BX6 OF6 HX6 z1 z2 z3 z4 y1 y2 y3 ⊢
            have hs9 : W1.heap.size ≤ W9.heap.size := by rw [← hW9]; exact hs6
            clear hs6 zf yf hW9 HX1 OF1 BX1 DW1 BW1 hB1 n0
            have n0 := N6'
            have BW1 := BW6
            have DW1 := DW6
            have BX1 := BX6
            have OF1 := OF6
            have HX1 := HX6
            clear N6' BW6 DW6 BX6 OF6 HX6
            have hszw : w.heap.size + 3 ≤ W9.heap.size := by omega
            have hszN9 : N6 ≤ W9.heap.size := by omega
            have hwW1 : wr.heap.size < W9.heap.size := by omega
            have hbl : Hid (∀ i, (Value.slice ql n ml).ownBlock = some i → N6 ≤ i ∧ i < wr.heap.size) := fun i hi => RowK.blk hdl.out.1 i hi
            have KR : Hid (∀ W, Below W9.heap.size W9 W → Calls Tryz.prog 34 #[.agg #[.slice x.fa x.s.fs.length x.fn, .slice x.pa x.s.pr.length x.pn], .int .i64 k] W fun e w' => ∃ v, e = .returned v ∧ ShFr W.heap.size w' v (M.renS x.s k) ∧ Below W.heap.size W w') := fun W hb => by
              have h1 := orename_fr W _ x.s k (ShAt.bel HX1.out.2 hb) HXL.out
              rw [HMX.out] at h1
              exact h1
            have hgW1 : w.heap.size + 2 < W9.heap.size := by omega
            have hwg : wr.heap.size ≠ w.heap.size + 2 := by omega
            have hrn : Hid (∀ i, (Value.slice ql n ml).ownBlock = some i → ¬ (i = wr.heap.size ∨ i = w.heap.size + 2)) := fun i hi h => by
              have h1 := hbl.out i hi
              omega
            go_wp2_with fail
            clear z1 z2 z3 z4 y1 y2 y3
            have KH : Hid (∀ W : World, W.heap[wr.heap.size]? = some (.cells #[.int .i64 x.x.k, .int .i64 x.x.n, .slice x.fa x.s.fs.length x.fn, .slice x.pa x.s.pr.length x.pn] 36 (0, 0)) → (W.cell? ⟨wr.heap.size, 0, none⟩ = some (.int .i64 x.x.k) ∧ W.cell? ⟨wr.heap.size, 1, none⟩ = some (.int .i64 x.x.n) ∧ W.cell? ⟨wr.heap.size, 2, none⟩ = some (.slice x.fa x.s.fs.length x.fn) ∧ W.cell? ⟨wr.heap.size, 3, none⟩ = some (.slice x.pa x.s.pr.length x.pn))) := fun W hb => by
              obtain ⟨y0, y1, y2, y3, _⟩ := cells4 hb
              exact ⟨y0, y1, y2, y3⟩
            refine wp_region_held_drew (S := fun W => W.cell? ⟨wr.heap.size, 0, none⟩ = some (.int .i64 x.x.k) ∧ W.cell? ⟨wr.heap.size, 1, none⟩ = some (.int .i64 x.x.n) ∧ W.cell? ⟨wr.heap.size, 2, none⟩ = some (.slice x.fa x.s.fs.length x.fn) ∧ W.cell? ⟨wr.heap.size, 3, none⟩ = some (.slice x.pa x.s.pr.length x.pn)) (by kernel_rfl) (KH.out _ n0.out) (fun hHeld => ?_)
            have Bh0 : Hid (Below W9.heap.size W9 W9.drew) := (Gr.refl W9).drew.below
            refine tk 0 ⟨some 45, .fieldAddr 25 (.tmp 5) 2, 0, "demote.go:56", #[], none⟩ (v := ?_) hHeld ?_ ?_
            rotate_left
            · intro w hSw; (try dsimp only at hSw); go_simp; (try with_reducible rfl)
            simp only [Act.put, List.setIfInBounds_toArray, List.set_cons_zero, List.set_cons_succ]
            refine tk 2 ⟨some 47, .fieldAddr 36 (.tmp 9) 0, 0, "demote.go:56", #[], none⟩ (v := ?_) hHeld ?_ ?_
            rotate_left
            · intro w hSw; (try dsimp only at hSw); go_simp; (try with_reducible rfl)
            simp only [Act.put, List.setIfInBounds_toArray, List.set_cons_zero, List.set_cons_succ]
            refine tk 3 ⟨some 48, .load 34 (.tmp 47), 34, "demote.go:56", #[⟨2, .data⟩], none⟩ (v := ?_) hHeld ?_ ?_
            rotate_left
            · intro w hSw; (try dsimp only at hSw); go_simp; (try with_reducible rfl)
            simp only [Act.put, List.setIfInBounds_toArray, List.set_cons_zero, List.set_cons_succ]
            refine tk 4 ⟨some 49, .fieldAddr 36 (.tmp 9) 1, 0, "demote.go:56", #[], none⟩ (v := ?_) hHeld ?_ ?_
            rotate_left
            · intro w hSw; (try dsimp only at hSw); go_simp; (try with_reducible rfl)
            simp only [Act.put, List.setIfInBounds_toArray, List.set_cons_zero, List.set_cons_succ]
            refine tk 5 ⟨some 50, .load 31 (.tmp 49), 31, "demote.go:56", #[⟨4, .data⟩], none⟩ (v := ?_) hHeld ?_ ?_
            rotate_left
            · intro w hSw; (try dsimp only at hSw); go_simp; (try with_reducible rfl)
            simp only [Act.put, List.setIfInBounds_toArray, List.set_cons_zero, List.set_cons_succ]
            refine tk 6 ⟨some 51, .move (.tmp 1), 3, "demote.go:56", #[], none⟩ (v := ?_) hHeld ?_ ?_
            rotate_left
            · intro w hSw; (try dsimp only at hSw); go_simp; (try with_reducible rfl)
            simp only [Act.put, List.setIfInBounds_toArray, List.set_cons_zero, List.set_cons_succ]
            refine wpAnyH_ready (rs := [1, 7]) (by kernel_rfl) (by simp) ?_
            refine AllReadyH.cons (o := ⟨some 46, .load 23 (.tmp 45), 23, "demote.go:56", #[⟨0, .data⟩], none⟩) rfl (fun K hK => ?_) (AllReadyH.cons (o := ⟨some 52, .call { callee := .value (.func 34), args := #[.tmp 50, .tmp 51], argTypes := #[31, 3] }, 31, "demote.go:56", #[⟨5, .data⟩, ⟨6, .data⟩], none⟩) rfl (fun K hK => ?_) AllReadyH.nil)
            · obtain ⟨o0, o1, o2, _⟩ := cells3 (BX1.out)
              go_simp
              clear o0 o1 o2
              refine hK.out _ _ (KH.out _ (n0.out)) (fun hHeld => ?_)
              clear hK
              refine wpAnyH_ready (rs := [7]) (by kernel_rfl) (by simp) ?_
              refine AllReadyH.cons (o := ⟨some 52, .call { callee := .value (.func 34), args := #[.tmp 50, .tmp 51], argTypes := #[31, 3] }, 31, "demote.go:56", #[⟨5, .data⟩, ⟨6, .data⟩], none⟩) rfl (fun K hK => ?_) AllReadyH.nil
              go_simp
              refine (KR.out _ Bh0.out).mono ?_
              rintro e z116 ⟨v116, rfl, hA116, hb⟩
              obtain ⟨f116, n116, p116, m116, rfl⟩ := ShAt.form (ShFr.at hA116)
              have Bh116 := hid (Bh0.out.trans (hb.mono Bh0.out.size))
              clear hb
              refine hK.out _ _ (KH.out _ (kept n0.out hwW1 Bh116.out)) (fun hHeld => ?_)
              clear hK
              refine tk 8 ⟨some 53, .build 36 #[(0, .tmp 48), (1, .tmp 52)], 36, "demote.go:56", #[⟨3, .data⟩, ⟨7, .data⟩], none⟩ (v := ?_) hHeld ?_ ?_
              rotate_left
              · intro w hSw; (try dsimp only at hSw); go_simp; (try with_reducible rfl)
              simp only [Act.put, List.setIfInBounds_toArray, List.set_cons_zero, List.set_cons_succ]
              refine wpAnyH_ready (rs := [9]) (by kernel_rfl) (by simp) ?_
              refine AllReadyH.cons (o := ⟨some 54, .buildSlice 23 1 #[(0, .tmp 53)], 23, "demote.go:56", #[⟨8, .data⟩], none⟩) rfl (fun K hK => ?_) AllReadyH.nil
              obtain ⟨z117, hz117⟩ : ∃ W, z116.alloc (.cells #[.int .i64 x.x.k, .int .i64 x.x.n, .slice f116 (M.renS x.s k).fs.length n116, .slice p116 (M.renS x.s k).pr.length m116] 36 : Obj) = W := ⟨_, rfl⟩
              go_simp
              have hb : Below z116.heap.size z116 z117 := by rw [← hz117]; exact (gr_new _ _).below
              have hs117 : z117.heap.size = z116.heap.size + 1 := by rw [← hz117]; simp
              have NF : Hid (∀ i u, (lc ⟨x.x, M.renS x.s k, f116, n116, p116, m116⟩)[i]? = some u → z117.cell? ((⟨z116.heap.size, 0, none⟩ : Addr).add i) = some u) := by unfold Hid; rw [← hz117]; exact new_lc
              have Bh117 := hid (Bh116.out.trans (hb.mono Bh116.out.size))
              have HG117 := hid hb
              clear hb hz117
              refine hK.out _ _ (KH.out _ (kept n0.out hwW1 Bh117.out)) (fun hHeld => ?_)
              clear hK
              refine wpAnyH_ready (rs := [10]) (by kernel_rfl) (by simp) ?_
              refine AllReadyH.cons (o := ⟨some 55, .call { callee := .builtin .append, args := #[.tmp 46, .tmp 54], argTypes := #[23, 23] }, 23, "demote.go:56", #[⟨1, .data⟩, ⟨9, .data⟩, ⟨7, .chain⟩], none⟩) rfl (fun K hK => ?_) AllReadyH.nil
              refine step_apdL (by rfl) _ _ (by rfl) N6 (.slice ql n ml) acL (by rfl) (DW1.out.keep Bh117.out).1 ⟨z116.heap.size, 0, none⟩ 1 ⟨x.x, M.renS x.s k, f116, n116, p116, m116⟩ (by rfl) NF.out (by have := hlenL.out; omega) (by have := Bh117.out.size; omega) ?_
              intro q118 m118 z118 hr118 hg118 ha118
              rw [hlenL.out] at hr118 ha118 ⊢
              have el118 : Hid (z118.heap[wr.heap.size]? = some (.cells #[.int .i64 x.x.k, .int .i64 x.x.n, .slice x.fa x.s.fs.length x.fn, .slice x.pa x.s.pr.length x.pn] 36 (0, 0))) := grown_at (kept n0.out hwW1 Bh117.out) hg118 (fun e => hrn.out _ e (.inl rfl))
              have bx118 := hid (grown_at (kept BX1.out hgW1 Bh117.out) hg118 (fun e => hrn.out _ e (.inr rfl)))
              refine hK.out _ _ (KH.out _ el118.out) (fun hHeld => ?_)
              clear hK
              refine tk 11 ⟨some 56, .fieldAddr 25 (.tmp 5) 2, 0, "demote.go:56", #[⟨0, .phase⟩, ⟨1, .phase⟩, ⟨2, .phase⟩, ⟨3, .phase⟩, ⟨4, .phase⟩, ⟨5, .phase⟩, ⟨6, .phase⟩, ⟨7, .phase⟩, ⟨8, .phase⟩, ⟨9, .phase⟩, ⟨10, .phase⟩], none⟩ (v := ?_) hHeld ?_ ?_
              rotate_left
              · intro w hSw; (try dsimp only at hSw); go_simp; (try with_reducible rfl)
              simp only [Act.put, List.setIfInBounds_toArray, List.set_cons_zero, List.set_cons_succ]
              refine wpAnyH_ready (rs := [12]) (by kernel_rfl) (by simp) ?_
              refine AllReadyH.cons (o := ⟨none, .store 23 (.tmp 56) (.tmp 55), 0, "demote.go:56", #[⟨11, .data⟩, ⟨10, .data⟩, ⟨10, .chain⟩, ⟨0, .phase⟩, ⟨1, .phase⟩, ⟨2, .phase⟩, ⟨3, .phase⟩, ⟨4, .phase⟩, ⟨5, .phase⟩, ⟨6, .phase⟩, ⟨7, .phase⟩, ⟨8, .phase⟩, ⟨9, .phase⟩, ⟨10, .phase⟩], none⟩) rfl (fun K hK => ?_) AllReadyH.nil
              obtain ⟨o0, o1, o2, _⟩ := cells3 bx118.out
              go_simp
              clear o0 o1 o2
              refine hK.out _ _ (KH.out _ (by rw [set_blk _ _ _ _ _ hwg]; exact el118.out)) (fun hHeld => ?_)
              clear hK
              refine wpAnyH_done (by kernel_rfl) ?_ _
              clear hHeld KH
              have D7 := DL.grow (DW1.out.keep Bh117.out) (x := ⟨x.x, M.renS x.s k, f116, n116, p116, m116⟩) (oneL_new (n := W9.heap.size) (ShFr.bel hA116 HG117.out) HX1.out.1 (by omega) (fun i hi => (RowK.blk DW1.out.1 i hi).2)) hr118 hg118 ha118
              have O7 : OffG (some (w.heap.size + 2)) W6 z118 := ((OF1.out.bel Bh117.out).own hg118 (fun i hi => by have := (RowK.blk DW1.out.1 i hi).1; omega))
              have B7 : Below w.heap.size w z118 := (BW1.out.trans (Bh117.out.mono BW1.out.size)).grown hg118 (by have := Bh117.out.size; omega) (fun i hi => by have := (RowK.blk DW1.out.1 i hi).1; omega)
              have HL7 : lclOf (acL ++ [⟨x.x, M.renS x.s k, f116, n116, p116, m116⟩]) = M.dropL ((lclOf L).take (i' + 1)) k := by
                rw [drop_take hjl' HXE.out, if_neg HD.out, ← hbo.out]
                simp [lclOf, Lcl.p]
              go_wp2
              refine ⟨⟨i' + 1, n + 1, q118, m118, acL ++ [⟨x.x, M.renS x.s k, f116, n116, p116, m116⟩], by omega, by omega, by go_num, (show _ = _ by rw [List.length_append, hlenL.out]; rfl), hid HL7, hid (DL.set (g := w.heap.size + 2) (p := 2) D7 (by omega)), hid (box_put bx118.out _), hid O7.set, hid (B7.setCell (p := ⟨w.heap.size + 2, 2, none⟩) (show w.heap.size ≤ w.heap.size + 2 by omega) _)⟩, by simp [intOf]; omega⟩
            · go_simp
              refine (KR.out _ Bh0.out).mono ?_
              rintro e z120 ⟨v120, rfl, hA120, hb⟩
              obtain ⟨f120, n120, p120, m120, rfl⟩ := ShAt.form (ShFr.at hA120)
              have Bh120 := hid (Bh0.out.trans (hb.mono Bh0.out.size))
              clear hb
              refine hK.out _ _ (KH.out _ (kept n0.out hwW1 Bh120.out)) (fun hHeld => ?_)
              clear hK
              refine tk 8 ⟨some 53, .build 36 #[(0, .tmp 48), (1, .tmp 52)], 36, "demote.go:56", #[⟨3, .data⟩, ⟨7, .data⟩], none⟩ (v := ?_) hHeld ?_ ?_
              rotate_left
              · intro w hSw; (try dsimp only at hSw); go_simp; (try with_reducible rfl)
              simp only [Act.put, List.setIfInBounds_toArray, List.set_cons_zero, List.set_cons_succ]
              refine wpAnyH_ready (rs := [1, 9]) (by kernel_rfl) (by simp) ?_
              refine AllReadyH.cons (o := ⟨some 46, .load 23 (.tmp 45), 23, "demote.go:56", #[⟨0, .data⟩], none⟩) rfl (fun K hK => ?_) (AllReadyH.cons (o := ⟨some 54, .buildSlice 23 1 #[(0, .tmp 53)], 23, "demote.go:56", #[⟨8, .data⟩], none⟩) rfl (fun K hK => ?_) AllReadyH.nil)
              · obtain ⟨o0, o1, o2, _⟩ := cells3 (kept BX1.out hgW1 Bh120.out)
                go_simp
                clear o0 o1 o2
                refine hK.out _ _ (KH.out _ (kept n0.out hwW1 Bh120.out)) (fun hHeld => ?_)
                clear hK
                refine wpAnyH_ready (rs := [9]) (by kernel_rfl) (by simp) ?_
                refine AllReadyH.cons (o := ⟨some 54, .buildSlice 23 1 #[(0, .tmp 53)], 23, "demote.go:56", #[⟨8, .data⟩], none⟩) rfl (fun K hK => ?_) AllReadyH.nil
                obtain ⟨z122, hz122⟩ : ∃ W, z120.alloc (.cells #[.int .i64 x.x.k, .int .i64 x.x.n, .slice f120 (M.renS x.s k).fs.length n120, .slice p120 (M.renS x.s k).pr.length m120] 36 : Obj) = W := ⟨_, rfl⟩
                go_simp
                have hb : Below z120.heap.size z120 z122 := by rw [← hz122]; exact (gr_new _ _).below
                have hs122 : z122.heap.size = z120.heap.size + 1 := by rw [← hz122]; simp
                have NF : Hid (∀ i u, (lc ⟨x.x, M.renS x.s k, f120, n120, p120, m120⟩)[i]? = some u → z122.cell? ((⟨z120.heap.size, 0, none⟩ : Addr).add i) = some u) := by unfold Hid; rw [← hz122]; exact new_lc
                have Bh122 := hid (Bh120.out.trans (hb.mono Bh120.out.size))
                have HG122 := hid hb
                clear hb hz122
                refine hK.out _ _ (KH.out _ (kept n0.out hwW1 Bh122.out)) (fun hHeld => ?_)
                clear hK
                refine wpAnyH_ready (rs := [10]) (by kernel_rfl) (by simp) ?_
                refine AllReadyH.cons (o := ⟨some 55, .call { callee := .builtin .append, args := #[.tmp 46, .tmp 54], argTypes := #[23, 23] }, 23, "demote.go:56", #[⟨1, .data⟩, ⟨9, .data⟩, ⟨7, .chain⟩], none⟩) rfl (fun K hK => ?_) AllReadyH.nil
                refine step_apdL (by rfl) _ _ (by rfl) N6 (.slice ql n ml) acL (by rfl) (DW1.out.keep Bh122.out).1 ⟨z120.heap.size, 0, none⟩ 1 ⟨x.x, M.renS x.s k, f120, n120, p120, m120⟩ (by rfl) NF.out (by have := hlenL.out; omega) (by have := Bh122.out.size; omega) ?_
                intro q123 m123 z123 hr123 hg123 ha123
                rw [hlenL.out] at hr123 ha123 ⊢
                have el123 : Hid (z123.heap[wr.heap.size]? = some (.cells #[.int .i64 x.x.k, .int .i64 x.x.n, .slice x.fa x.s.fs.length x.fn, .slice x.pa x.s.pr.length x.pn] 36 (0, 0))) := grown_at (kept n0.out hwW1 Bh122.out) hg123 (fun e => hrn.out _ e (.inl rfl))
                have bx123 := hid (grown_at (kept BX1.out hgW1 Bh122.out) hg123 (fun e => hrn.out _ e (.inr rfl)))
                refine hK.out _ _ (KH.out _ el123.out) (fun hHeld => ?_)
                clear hK
                refine tk 11 ⟨some 56, .fieldAddr 25 (.tmp 5) 2, 0, "demote.go:56", #[⟨0, .phase⟩, ⟨1, .phase⟩, ⟨2, .phase⟩, ⟨3, .phase⟩, ⟨4, .phase⟩, ⟨5, .phase⟩, ⟨6, .phase⟩, ⟨7, .phase⟩, ⟨8, .phase⟩, ⟨9, .phase⟩, ⟨10, .phase⟩], none⟩ (v := ?_) hHeld ?_ ?_
                rotate_left
                · intro w hSw; (try dsimp only at hSw); go_simp; (try with_reducible rfl)
                simp only [Act.put, List.setIfInBounds_toArray, List.set_cons_zero, List.set_cons_succ]
                refine wpAnyH_ready (rs := [12]) (by kernel_rfl) (by simp) ?_
                refine AllReadyH.cons (o := ⟨none, .store 23 (.tmp 56) (.tmp 55), 0, "demote.go:56", #[⟨11, .data⟩, ⟨10, .data⟩, ⟨10, .chain⟩, ⟨0, .phase⟩, ⟨1, .phase⟩, ⟨2, .phase⟩, ⟨3, .phase⟩, ⟨4, .phase⟩, ⟨5, .phase⟩, ⟨6, .phase⟩, ⟨7, .phase⟩, ⟨8, .phase⟩, ⟨9, .phase⟩, ⟨10, .phase⟩], none⟩) rfl (fun K hK => ?_) AllReadyH.nil
                obtain ⟨o0, o1, o2, _⟩ := cells3 bx123.out
                go_simp
                clear o0 o1 o2
                refine hK.out _ _ (KH.out _ (by rw [set_blk _ _ _ _ _ hwg]; exact el123.out)) (fun hHeld => ?_)
                clear hK
                refine wpAnyH_done (by kernel_rfl) ?_ _
                clear hHeld KH
                have D7 := DL.grow (DW1.out.keep Bh122.out) (x := ⟨x.x, M.renS x.s k, f120, n120, p120, m120⟩) (oneL_new (n := W9.heap.size) (ShFr.bel hA120 HG122.out) HX1.out.1 (by omega) (fun i hi => (RowK.blk DW1.out.1 i hi).2)) hr123 hg123 ha123
                have O7 : OffG (some (w.heap.size + 2)) W6 z123 := ((OF1.out.bel Bh122.out).own hg123 (fun i hi => by have := (RowK.blk DW1.out.1 i hi).1; omega))
                have B7 : Below w.heap.size w z123 := (BW1.out.trans (Bh122.out.mono BW1.out.size)).grown hg123 (by have := Bh122.out.size; omega) (fun i hi => by have := (RowK.blk DW1.out.1 i hi).1; omega)
                have HL7 : lclOf (acL ++ [⟨x.x, M.renS x.s k, f120, n120, p120, m120⟩]) = M.dropL ((lclOf L).take (i' + 1)) k := by
                  rw [drop_take hjl' HXE.out, if_neg HD.out, ← hbo.out]
                  simp [lclOf, Lcl.p]
                go_wp2
                refine ⟨⟨i' + 1, n + 1, q123, m123, acL ++ [⟨x.x, M.renS x.s k, f120, n120, p120, m120⟩], by omega, by omega, by go_num, (show _ = _ by rw [List.length_append, hlenL.out]; rfl), hid HL7, hid (DL.set (g := w.heap.size + 2) (p := 2) D7 (by omega)), hid (box_put bx123.out _), hid O7.set, hid (B7.setCell (p := ⟨w.heap.size + 2, 2, none⟩) (show w.heap.size ≤ w.heap.size + 2 by omega) _)⟩, by simp [intOf]; omega⟩
              · obtain ⟨z125, hz125⟩ : ∃ W, z120.alloc (.cells #[.int .i64 x.x.k, .int .i64 x.x.n, .slice f120 (M.renS x.s k).fs.length n120, .slice p120 (M.renS x.s k).pr.length m120] 36 : Obj) = W := ⟨_, rfl⟩
                go_simp
                have hb : Below z120.heap.size z120 z125 := by rw [← hz125]; exact (gr_new _ _).below
                have hs125 : z125.heap.size = z120.heap.size + 1 := by rw [← hz125]; simp
                have NF : Hid (∀ i u, (lc ⟨x.x, M.renS x.s k, f120, n120, p120, m120⟩)[i]? = some u → z125.cell? ((⟨z120.heap.size, 0, none⟩ : Addr).add i) = some u) := by unfold Hid; rw [← hz125]; exact new_lc
                have Bh125 := hid (Bh120.out.trans (hb.mono Bh120.out.size))
                have HG125 := hid hb
                clear hb hz125
                refine hK.out _ _ (KH.out _ (kept n0.out hwW1 Bh125.out)) (fun hHeld => ?_)
                clear hK
                refine wpAnyH_ready (rs := [1]) (by kernel_rfl) (by simp) ?_
                refine AllReadyH.cons (o := ⟨some 46, .load 23 (.tmp 45), 23, "demote.go:56", #[⟨0, .data⟩], none⟩) rfl (fun K hK => ?_) AllReadyH.nil
                obtain ⟨o0, o1, o2, _⟩ := cells3 (kept BX1.out hgW1 Bh125.out)
                go_simp
                clear o0 o1 o2
                refine hK.out _ _ (KH.out _ (kept n0.out hwW1 Bh125.out)) (fun hHeld => ?_)
                clear hK
                refine wpAnyH_ready (rs := [10]) (by kernel_rfl) (by simp) ?_
                refine AllReadyH.cons (o := ⟨some 55, .call { callee := .builtin .append, args := #[.tmp 46, .tmp 54], argTypes := #[23, 23] }, 23, "demote.go:56", #[⟨1, .data⟩, ⟨9, .data⟩, ⟨7, .chain⟩], none⟩) rfl (fun K hK => ?_) AllReadyH.nil
                refine step_apdL (by rfl) _ _ (by rfl) N6 (.slice ql n ml) acL (by rfl) (DW1.out.keep Bh125.out).1 ⟨z120.heap.size, 0, none⟩ 1 ⟨x.x, M.renS x.s k, f120, n120, p120, m120⟩ (by rfl) NF.out (by have := hlenL.out; omega) (by have := Bh125.out.size; omega) ?_
                intro q127 m127 z127 hr127 hg127 ha127
                rw [hlenL.out] at hr127 ha127 ⊢
                have el127 : Hid (z127.heap[wr.heap.size]? = some (.cells #[.int .i64 x.x.k, .int .i64 x.x.n, .slice x.fa x.s.fs.length x.fn, .slice x.pa x.s.pr.length x.pn] 36 (0, 0))) := grown_at (kept n0.out hwW1 Bh125.out) hg127 (fun e => hrn.out _ e (.inl rfl))
                have bx127 := hid (grown_at (kept BX1.out hgW1 Bh125.out) hg127 (fun e => hrn.out _ e (.inr rfl)))
                refine hK.out _ _ (KH.out _ el127.out) (fun hHeld => ?_)
                clear hK
                refine tk 11 ⟨some 56, .fieldAddr 25 (.tmp 5) 2, 0, "demote.go:56", #[⟨0, .phase⟩, ⟨1, .phase⟩, ⟨2, .phase⟩, ⟨3, .phase⟩, ⟨4, .phase⟩, ⟨5, .phase⟩, ⟨6, .phase⟩, ⟨7, .phase⟩, ⟨8, .phase⟩, ⟨9, .phase⟩, ⟨10, .phase⟩], none⟩ (v := ?_) hHeld ?_ ?_
                rotate_left
                · intro w hSw; (try dsimp only at hSw); go_simp; (try with_reducible rfl)
                simp only [Act.put, List.setIfInBounds_toArray, List.set_cons_zero, List.set_cons_succ]
                refine wpAnyH_ready (rs := [12]) (by kernel_rfl) (by simp) ?_
                refine AllReadyH.cons (o := ⟨none, .store 23 (.tmp 56) (.tmp 55), 0, "demote.go:56", #[⟨11, .data⟩, ⟨10, .data⟩, ⟨10, .chain⟩, ⟨0, .phase⟩, ⟨1, .phase⟩, ⟨2, .phase⟩, ⟨3, .phase⟩, ⟨4, .phase⟩, ⟨5, .phase⟩, ⟨6, .phase⟩, ⟨7, .phase⟩, ⟨8, .phase⟩, ⟨9, .phase⟩, ⟨10, .phase⟩], none⟩) rfl (fun K hK => ?_) AllReadyH.nil
                obtain ⟨o0, o1, o2, _⟩ := cells3 bx127.out
                go_simp
                clear o0 o1 o2
                refine hK.out _ _ (KH.out _ (by rw [set_blk _ _ _ _ _ hwg]; exact el127.out)) (fun hHeld => ?_)
                clear hK
                refine wpAnyH_done (by kernel_rfl) ?_ _
                clear hHeld KH
                have D7 := DL.grow (DW1.out.keep Bh125.out) (x := ⟨x.x, M.renS x.s k, f120, n120, p120, m120⟩) (oneL_new (n := W9.heap.size) (ShFr.bel hA120 HG125.out) HX1.out.1 (by omega) (fun i hi => (RowK.blk DW1.out.1 i hi).2)) hr127 hg127 ha127
                have O7 : OffG (some (w.heap.size + 2)) W6 z127 := ((OF1.out.bel Bh125.out).own hg127 (fun i hi => by have := (RowK.blk DW1.out.1 i hi).1; omega))
                have B7 : Below w.heap.size w z127 := (BW1.out.trans (Bh125.out.mono BW1.out.size)).grown hg127 (by have := Bh125.out.size; omega) (fun i hi => by have := (RowK.blk DW1.out.1 i hi).1; omega)
                have HL7 : lclOf (acL ++ [⟨x.x, M.renS x.s k, f120, n120, p120, m120⟩]) = M.dropL ((lclOf L).take (i' + 1)) k := by
                  rw [drop_take hjl' HXE.out, if_neg HD.out, ← hbo.out]
                  simp [lclOf, Lcl.p]
                go_wp2
                refine ⟨⟨i' + 1, n + 1, q127, m127, acL ++ [⟨x.x, M.renS x.s k, f120, n120, p120, m120⟩], by omega, by omega, by go_num, (show _ = _ by rw [List.length_append, hlenL.out]; rfl), hid HL7, hid (DL.set (g := w.heap.size + 2) (p := 2) D7 (by omega)), hid (box_put bx127.out _), hid O7.set, hid (B7.setCell (p := ⟨w.heap.size + 2, 2, none⟩) (show w.heap.size ≤ w.heap.size + 2 by omega) _)⟩, by simp [intOf]; omega⟩
        · have hfullL : Hid (lclOf acL = M.dropL s.ls k) := by
            unfold Hid
            rw [hbo.out, List.take_of_length_le (by rw [lclOf_len]; omega), HSL.out]
          have P2r : Hid (wr.heap[w.heap.size + 1]? = some (.cells #[.bool false, .slice none 0 0, .slice none 0 0] 25 (0, 0))) := (hoff.out.2 _ (by omega) (fun e => by have := Option.some.inj e; omega)).trans P2w.out
          have DBr := hid (hdb.out.offG hoff.out (fun i hi => by have := Option.some.inj hi; omega))
          obtain ⟨y1, y2, y3, yf⟩ := cells3 hbx.out
          obtain ⟨z1, z2, z3, zf⟩ := cells3 P2r.out
          go_wp2
          refine bodyPost_ret (v := .agg #[.bool dd, .slice qv j mv, .slice ql n ml]) (by simp [results, Tryz.results31, go_sem, z1, z2, z3]) rfl ?_
          refine ⟨_, rfl, ?_, set3k hbel.out (by omega) _ _ _⟩
          have hfr : StFr N wr (.agg #[.bool dd, .slice qv j mv, .slice ql n ml]) ⟨dd, bndOf acc, lclOf acL⟩ := st_of_rows DBr.out hdl.out (by omega)
          rw [hfull.out, hfullL.out, ← HDD.out] at hfr
          rw [← HDD.out]
          exact ((((StFr.set (g := w.heap.size + 1) hfr (by omega)).set (g := w.heap.size + 1) (by omega)).set (g := w.heap.size + 1) (by omega)).mono (by omega))
end Go.Proofs.YtbaaeobdjiglgaaGreat
