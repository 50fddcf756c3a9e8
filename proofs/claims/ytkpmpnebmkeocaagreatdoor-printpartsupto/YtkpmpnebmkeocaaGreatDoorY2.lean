/-
  The walk of a layer's put: it lays tokens, each with a blank behind it, as long as there is room. No conditions.
-/
import Derived.Test.YtkpmpnebmkeocaaGreatDoorY1
set_option linter.unusedVariables false
set_option linter.unusedSimpArgs false
namespace Go.Proofs.YtkpmpnebmkeocaaGreatDoor
open Go.RowKit

theorem cells4 {w : World} {g : Nat} {T : TypeId} {v0 v1 v2 v3 : Value} (h : w.heap[g]? = some (.cells #[v0, v1, v2, v3] T (0, 0))) :
    w.cell? ⟨g, 0, none⟩ = some v0 ∧ w.cell? ⟨g, 1, none⟩ = some v1 ∧ w.cell? ⟨g, 2, none⟩ = some v2 ∧ w.cell? ⟨g, 3, none⟩ = some v3 ∧ (∀ i, w.frozen? ⟨g, i, none⟩ = false) ∧ g < w.heap.size := by
  refine ⟨?_, ?_, ?_, ?_, fun i => Lib.frozen_of_heap h i, (Array.getElem?_eq_some_iff.1 h).1⟩
  all_goals (rw [Lib.cell_of_heap h]; rfl)
theorem infoU8 : (Tryz.prog.info? 5).map (fun i => (i.zero, i.size, i.bytes)) = some (some (.int .u8 0), 1, 1) := by kernel_rfl
theorem Lay.full {B : Nat} {w : World} {X : Nat → Prop} {L : Nat} {s : Option (List UInt8)} (h : Lay B w X L s) : LayR B X L w none (w.setCell ⟨L, 1, none⟩ (.bool true)) := by
  have hlt := h.lt
  obtain ⟨hX, hf, tb, v, mw, mo, b, h1, ⟨h2, h3⟩, ⟨h4, h5⟩, h6, h7, h8, h9⟩ := h
  have hne : ∀ k, ¬ X k → k ≠ L := fun k hk e => hk (e ▸ hX)
  refine ⟨X, ⟨hX, fun k hk => by simpa using hf k hk, tb.keep (by simp) (fun k hk _ => Below.heap_setCell _ _ _ _ (by have := (hf L hX).1; show k ≠ L; omega)), v, mw, mo, b, ?_, ⟨h2.keep (fun _ => Below.heap_setCell _ _ _ _ (hne mw h3)), h3⟩, ⟨h4.keep (fun _ => Below.heap_setCell _ _ _ _ (hne mo h5)), h5⟩, fun _ e => (by cases e), h7, ?_, h9⟩, (Turn.refl _ _).setCell (.inl hX) _, fun k hk => .inl hk⟩
  · have := heap_setCell_same w L 1 _ _ (.bool true) h1
    simpa using this
  · exact h8.kept (row := some L) ⟨rfl, rfl, rfl, by simp, fun k hk hk2 => Below.heap_setCell _ _ _ _ (fun e => hk2 (by rw [e]))⟩ (by by_cases e : v.ownBlock = none; exact .inl e; exact .inr fun e' => (h9 L e').2 rfl)

theorem append_str_block {P : Program} (w : World) (base : Nat) (t u ty e : TypeId) (i : TypeInfo) (ht : P.underlying t = some (.slice e)) (hu : P.underlying u = some .string) (hi : P.info? e = some i) (hz : i.zero = some (.int .u8 0))
    (hsize : i.size = 1) (hby : i.bytes = 1) (v : Value) (n : Nat) (xs : List Value) (hown : w.ownsRow base e 1 v n xs) (s : ByteArray) (hbytes : n + s.size ≤ 70368744177664) {v' : Value} {w' : World}
    (hr : (Builtin.append_ #[t, u] ty #[v, .string s]).run P w = .ok v' w') : ∀ k, v'.ownBlock = some k → v.ownBlock = some k ∨ k = w.heap.size := by
  have hxl : xs.length = n := by simpa using hown.1
  intro k hk
  rcases hown.2 with ⟨rfl, rfl⟩ | ⟨g, cap, cur, rfl, hbg, hg, hnc, hcm, hcs, htake⟩
  · by_cases hm : s.size = 0
    · have hf := Lib.run_firstCells_string (P := P) w 1 s
      rw [hm] at hf
      simp [Builtin.append_, run_underlying ht, run_underlying hu, sizeOf, typeInfo, hi, hsize, Builtin.lenOf, hm, hf] at hr
      rw [← hr.1] at hk
      simp [Value.ownBlock] at hk
    · have h2 := run_append_nil_string (P := P) w t u ty e i (.int .u8 0) ht hu hi hz s (by omega) (by omega) (by rw [hby]; omega)
      rw [h2] at hr
      cases hr
      simp [Value.ownBlock] at hk
      exact .inr hk.symm
  · by_cases hroom : n + s.size ≤ cap
    · have hcs' : cur.size = cap := by simpa using hcs
      have h2 := Lib.run_append_room_string (P := P) w t u ty e i ht hu hi hsize g n cap cur hg s hroom (by omega)
      rw [h2] at hr
      cases hr
      exact .inl hk
    · have holds : ∀ j u, xs[j]? = some u → w.cell? ((⟨g, 0, none⟩ : Addr).add j) = some u := hown.cells (g := g) rfl
      have h2 := Lib.run_append_grow_string (P := P) w t u ty e i (.int .u8 0) ht hu hi hz ⟨g, 0, none⟩ n cap xs (by rw [hsize]; simpa using hxl) holds s (by omega) (by omega) (by rw [hby]; exact growslice_fits (by omega) (by omega))
      rw [h2] at hr
      cases hr
      simp [Value.ownBlock] at hk
      exact .inr hk.symm
theorem wpList_append_str_at {P : Program} (w : World) {ops : Array Oper} {rest : List Oper} {o : Oper} {a : Act} {Q : Exit → Act → World → Prop} (hgd : o.guard = none) (sl x : Operand) (t u : TypeId)
    (ho : o.op = .call { callee := .builtin .append, args := #[sl, x], argTypes := #[t, u] })
    (base : Nat) (e : TypeId) (i : TypeInfo) (ht : P.underlying t = some (.slice e)) (hu : P.underlying u = some .string) (hi : P.info? e = some i) (hz : i.zero = some (.int .u8 0))
    (hsize : i.size = 1) (hby : i.bytes = 1)
    (v : Value) (n : Nat) (xs : List Value) (hs : a.eval sl = v) (hown : w.ownsRow base e 1 v n xs) (s : ByteArray) (hx : a.eval x = .string s)
    (hbytes : n + s.size ≤ 70368744177664) (hbase : base ≤ w.heap.size)
    (h : ∀ v' w', w'.ownsRow base e 1 v' (n + s.size) (xs ++ Lib.strCells s) → w.grownBy w' v.ownBlock → (∀ k, v'.ownBlock = some k → v.ownBlock = some k ∨ k = w.heap.size) → wpList P ops Q rest (a.put o.dst v') w') : wpList P ops Q (o :: rest) a w := by
  refine wpList_plain hgd fun K hK => ?_
  obtain ⟨v', w', hr, h2, h3, h4⟩ := Lib.run_append_own_string (P := P) w base t u o.type e i ht hu hi hz hsize hby v n xs hown s (by unfold maxLen; omega) (by omega) hbase
  have h5 := append_str_block w base t u o.type e i ht hu hi hz hsize hby v n xs hown s hbytes hr
  unfold Oper.wp execOp
  simp only [ho, resolve, invoke, builtin, Sem.run_bind, Sem.run_pure, Result.andThen_ok, List.map_toArray, List.map_cons, List.map_nil, hs, hx, hr]
  exact hK _ _ (h v' w' h2 h3 h5)
theorem Lay.moved {B : Nat} {w w' : World} {X : Nat → Prop} {L mw mo : Nat} (hX : X L) (hf : ∀ k, X k → B ≤ k ∧ k < w.heap.size) (tb : TabB B w) (q2 : MapAt wordT w mw ∧ ¬ X mw) (q3 : MapAt operT w mo ∧ ¬ X mo) (ht : Turn X w w') {v' : Value} {b' : List UInt8}
    (hL : w'.heap[L]? = some (.cells #[v', .bool false, .map (some mw), .map (some mo)] 59 (0, 0))) (hb : b'.length ≤ 65536) (hown : w'.ownsRow B 5 1 v' b'.length (byC b')) (hk : ∀ k, v'.ownBlock = some k → (X k ∨ w.heap.size ≤ k) ∧ k ≠ L) : LayR B X L w (some b') w' := by
  have l2 := q2.1.lt
  have l3 := q3.1.lt
  refine ⟨fun k => X k ∨ v'.ownBlock = some k, ⟨.inl hX, fun k hk' => ?_, tb.keep ht.size (fun k hk hk2 => ht.block k hk2 (fun hx => by have := (hf k hx).1; omega)), v', mw, mo, b', hL, ⟨q2.1.keep (fun _ => ht.block mw l2 q2.2), fun h => ?_⟩, ⟨q3.1.keep (fun _ => ht.block mo l3 q3.2), fun h => ?_⟩, fun b e => (by cases e; rfl), hb, hown, fun k e => ⟨.inr e, (hk k e).2⟩⟩, ht, fun k hk' => ?_⟩
  · rcases hk' with h | h
    · exact ⟨(hf k h).1, Nat.lt_of_lt_of_le (hf k h).2 ht.size⟩
    · exact hown.lt k h
  · rcases h with h | h
    · exact q2.2 h
    · rcases (hk mw h).1 with h | h
      · exact q2.2 h
      · omega
  · rcases h with h | h
    · exact q3.2 h
    · rcases (hk mo h).1 with h | h
      · exact q3.2 h
      · omega
  · rcases hk' with h | h
    · exact .inl h
    · exact (hk k h).1

set_option maxRecDepth 8000 in
set_option maxHeartbeats 2000000 in
theorem put_any (B : Nat) (w : World) (X : Nat → Prop) (L : Nat) (s : Option (List UInt8)) (v : Value) (l : List ByteArray) (h : Lay B w X L s) (hv : SlAt w X v l.length (l.map .string)) :
    Calls Tryz.prog 43 #[.pointer (some ⟨L, 0, none⟩), v] w (LayE B X L w (M.putsM s l)) := by
  obtain ⟨hl, a, cap, rfl, g1⟩ := hv
  obtain ⟨i0, hi0, hz0, hz1, hz2⟩ := info_parts infoU8
  go_enter Tryz.func43, Tryz.ntmps43
  go_wp2_with fail
  go_loopw [8] (fun i wr => ∃ (j : Nat) (s' : Option (List UInt8)) (X' : Nat → Prop), i = .int .i64 j ∧ j ≤ l.length ∧ Lay B wr X' L s' ∧ (Turn X w wr ∧ ∀ k, X' k → X k ∨ w.heap.size ≤ k) ∧ Hid (M.putsM s l = M.putsM s' (l.drop j))) (fun i _ => l.length - (intOf i).toNat)
  case atStart => exact ⟨0, s, X, rfl, Nat.zero_le _, h, ⟨Turn.refl _ _, fun k hk => .inl hk⟩, rfl⟩
  case round =>
    obtain ⟨j, s', X', rfl, hj, h', ⟨ht, hx⟩, HP⟩ := hrel
    by_cases hjl : j < l.length
    · rcases g1 with ⟨g1, _⟩ | ⟨b, o, rfl, hlt, hr, hc⟩
      · omega
      have hcell : wr.cell? ⟨b, o + j, none⟩ = some (.string l[j]) := by
        rw [World.cell?_of_block (w := w) (a := ⟨b, o + j, none⟩) (ht.block b hlt hr.1)]
        exact hc j _ (by simp [hjl])
      have hji : (j : Int) < (l.length : Int) := by omega
      have HD : Hid (l.drop j = l[j] :: l.drop (j + 1)) := List.drop_eq_getElem_cons hjl
      have hL := h'
      obtain ⟨hX, hf, tb, v, mw, mo, bs, q1, q2, q3, q6, q7, q8, q9⟩ := h'
      obtain ⟨c0, c1, c2, c3, cf, cz⟩ := cells4 q1
      obtain ⟨va, vc, rfl⟩ := own_form q8
      generalize l[j] = tk at hcell HD
      cases s' with
      | none =>
        simp only [Option.isNone_none] at c1
        have HF : Hid (LayR B X L w none (wr.setCell ⟨L, 1, none⟩ (.bool true))) := LayR.next ht hx hL.full
        have HE : Hid (M.putsM s l = none) := by unfold Hid; rw [HP.out, M.putsM_none]
        go_wp2_with fail
        go_end0
        exact ⟨rfl, by rw [HE.out]; exact HF.out⟩
      | some b0 =>
        obtain rfl := q6 b0 rfl
        simp only [Option.isNone_some] at c1 q1
        by_cases hfit : b0.length + tk.size + 1 ≤ 65536
        · have hge : ¬ ((65536 : Int) - (b0.length : Int) ≤ (tk.size : Int)) := by omega
          have HX : Hid (M.putM (some b0) tk = some (b0 ++ tk.data.toList ++ [32])) := by unfold Hid M.putM; simp only [if_pos hfit]
          have hBz : B ≤ wr.heap.size := Nat.le_trans (hf L hX).1 (Nat.le_of_lt (hf L hX).2)
          have hlt2 : b0.length + tk.size ≤ 70368744177664 := by omega
          clear hL
          go_wp2_with (at_builtin; refine wpList_append_str_at _ rfl _ _ 55 9 rfl B 5 i0 Tryz.underlying55 Tryz.underlying9 hi0 hz0 hz1 hz2 _ _ _ rfl q8 _ rfl hlt2 hBz ?_)
          intro v1 w1 own1 grow1 blk1
          obtain ⟨va1, vc1, rfl⟩ := own_form own1
          have hz1' := grow1.size
          have hLr : (Value.slice va b0.length vc).ownBlock ≠ some L := fun e => (q9 L e).2 rfl
          have hL1 : w1.heap[L]? = some (.cells #[.slice va b0.length vc, .bool false, .map (some mw), .map (some mo)] 59 (0, 0)) := (grow1.block L cz (Ne.symm hLr)).trans q1
          have hLr1 : (Value.slice va1 (b0.length + tk.size) vc1).ownBlock ≠ some L := fun e => by rcases blk1 L e with h | h; exact hLr h; omega
          obtain ⟨d0, d1, d2, d3, df, dz⟩ := cells4 hL1
          have t1 : Turn X' wr w1 := (Turn.refl _ _).grown grow1 (fun k e => .inl (q9 k e).1)
          clear c0 c1 c2 c3 cf
          have hL2 := heap_setCell_same w1 L 0 _ _ (.slice va1 (b0.length + tk.size) vc1) hL1
          have own2 := own1.kept (w' := w1.setCell ⟨L, 0, none⟩ (.slice va1 (b0.length + tk.size) vc1)) (row := some L) ⟨rfl, rfl, rfl, by simp, fun k hk hk2 => Below.heap_setCell _ _ _ _ (fun e => hk2 (by rw [e]))⟩ (.inr hLr1)
          have t2 : Turn X' wr (w1.setCell ⟨L, 0, none⟩ (.slice va1 (b0.length + tk.size) vc1)) := t1.setCell (.inl hX) _
          have hL2' : (w1.setCell ⟨L, 0, none⟩ (.slice va1 (b0.length + tk.size) vc1)).heap[L]? = some (.cells #[.slice va1 (b0.length + tk.size) vc1, .bool false, .map (some mw), .map (some mo)] 59 (0, 0)) := by simpa using hL2
          have hz2' : (w1.setCell ⟨L, 0, none⟩ (.slice va1 (b0.length + tk.size) vc1)).heap.size = w1.heap.size := by simp
          have HZ := hid hz2'
          clear hL2 hz2'
          have hnew : ((w1.setCell ⟨L, 0, none⟩ (.slice va1 (b0.length + tk.size) vc1)).alloc (.cells #[.int .u8 32] 5)).heap[w1.heap.size]? = some (.cells #[.int .u8 32] 5 (0, 0)) := by
            have := heap_alloc_new (w1.setCell ⟨L, 0, none⟩ (.slice va1 (b0.length + tk.size) vc1)) (.cells #[.int .u8 32] 5)
            rw [HZ.out] at this; exact this
          have HN := hid hnew
          clear hnew
          go_wp2_with (at_builtin; refine wpList_append_lies _ rfl _ _ 55 rfl B 5 i0 _ 1 1 Tryz.underlying55 hi0 hz0 hz1 hz2 rfl (by decide) _ _ _ rfl (own2.alloc _) ⟨w1.heap.size, 0, none⟩ 1 1 [.int .u8 32] (by simp [go_sem]) (by rfl) (World.news_of_block (cs := #[.int .u8 32]) (t := 5) (fr := (0, 0)) HN.out) (by simp [Value.oneCell']) Nat.one_pos (by unfold maxLen; omega) (by omega) (by simp; omega) (w1.heap.size + 1) (by simp) ?_)
          intro g3 cap3 w3 own3 grow3 at3 lt3
          have hz3 := grow3.size
          rw [World.size_alloc, HZ.out] at hz3
          have hL3 : w3.heap[L]? = some (.cells #[.slice va1 (b0.length + tk.size) vc1, .bool false, .map (some mw), .map (some mo)] 59 (0, 0)) := (grow3.block L (by rw [World.size_alloc, HZ.out]; omega) (Ne.symm hLr1)).trans (heap_al hL2')
          obtain ⟨k0, k1, k2, k3, kf, kz⟩ := cells4 hL3
          have hg3 : g3 ≠ L := by
            rcases at3 with h | h
            · intro e; exact hLr1 (by rw [h, e])
            · omega
          have t3 : Turn X' wr w3 := (t2.alloc _).grown grow3 (fun k e => by
            rcases blk1 k e with h | h
            · exact .inl (q9 k h).1
            · exact .inr (Nat.le_of_eq h.symm))
          have hL4 := heap_setCell_same w3 L 0 _ _ (.slice (some ⟨g3, 0, none⟩) (b0.length + tk.size + 1) cap3) hL3
          have own4 := own3.kept (w' := w3.setCell ⟨L, 0, none⟩ (.slice (some ⟨g3, 0, none⟩) (b0.length + tk.size + 1) cap3)) (row := some L) ⟨rfl, rfl, rfl, by simp, fun k hk hk2 => Below.heap_setCell _ _ _ _ (fun e => hk2 (by rw [e]))⟩ (.inr (by simp [Value.ownBlock]; exact hg3))
          have t4 : Turn X' wr (w3.setCell ⟨L, 0, none⟩ (.slice (some ⟨g3, 0, none⟩) (b0.length + tk.size + 1) cap3)) := t3.setCell (.inl hX) _
          have hlen : (b0 ++ tk.data.toList ++ [32]).length = b0.length + tk.size + 1 := by rw [List.length_append, List.length_append, M.list_size]; rfl
          have HM : Hid (LayR B X' L wr (some (b0 ++ tk.data.toList ++ [32])) (w3.setCell ⟨L, 0, none⟩ (.slice (some ⟨g3, 0, none⟩) (b0.length + tk.size + 1) cap3))) := by
            refine Lay.moved hX hf tb q2 q3 t4 (v' := .slice (some ⟨g3, 0, none⟩) (b0.length + tk.size + 1) cap3) (by simpa using hL4) (by rw [hlen]; exact hfit) ?_ (fun k e => ?_)
            · rw [hlen, byC_app, byC_app, List.append_assoc]; exact own4
            · simp [Value.ownBlock] at e
              subst e
              refine ⟨?_, hg3⟩
              rcases at3 with h | h
              · rcases blk1 _ h with h | h
                · exact .inl (q9 _ h).1
                · exact .inr (Nat.le_of_eq h.symm)
              · exact .inr (by omega)
          clear hL4 own4 t4 hlen hL3 hL2' own2 own3
          go_wp2_with fail
          obtain ⟨X2, m1, m2, m3⟩ := LayR.next ht hx HM.out
          refine ⟨⟨j + 1, some (b0 ++ tk.data.toList ++ [32]), X2, by go_num, by omega, m1, ⟨m2, m3⟩, ?_⟩, by simp [intOf]; omega⟩
          unfold Hid
          rw [HP.out, HD.out]
          show M.putsM (M.putM (some b0) tk) _ = _
          rw [HX.out]
        · have hge : ((65536 : Int) - (b0.length : Int) ≤ (tk.size : Int)) := by omega
          have HF : Hid (LayR B X L w none (wr.setCell ⟨L, 1, none⟩ (.bool true))) := LayR.next ht hx hL.full
          have HE : Hid (M.putsM s l = none) := by
            unfold Hid
            rw [HP.out, HD.out]
            show M.putsM (M.putM (some b0) tk) _ = none
            unfold M.putM
            simp only [if_neg hfit, M.putsM_none]
          go_wp2_with fail
          go_end0
          exact ⟨rfl, by rw [HE.out]; exact HF.out⟩
    · have hjn : ¬ (j : Int) < (l.length : Int) := by omega
      have HE : Hid (M.putsM s l = s') := by
        unfold Hid
        rw [HP.out, List.drop_eq_nil_of_le (by omega)]; rfl
      go_wp2_with fail
      go_end0
      exact ⟨rfl, by rw [HE.out]; exact ⟨X', h', ht, hx⟩⟩
end Go.Proofs.YtkpmpnebmkeocaaGreatDoor
