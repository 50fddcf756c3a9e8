/-
  The walks of a layer's word and operand. No conditions but that an operand's number is one.
-/
import Derived.Test.YtkpmpnebmkeocaaGreatDoorY2
import Derived.Test.YtkpmpnebmkeocaaGreatDoorY3
import Derived.Lib.ItoaNum
import Derived.Deep.RegionWith
set_option linter.unusedVariables false
set_option linter.unusedSimpArgs false
namespace Go.Proofs.YtkpmpnebmkeocaaGreatDoor
open Go.RowKit

theorem put_new (B : Nat) (w : World) (X : Nat → Prop) (L : Nat) (s : Option (List UInt8)) (l : List ByteArray) (h : Lay B w X L s) (hn : l.length ≤ 100) :
    Calls Tryz.prog 43 #[.pointer (some ⟨L, 0, none⟩), .slice (some ⟨w.heap.size, 0, none⟩) l.length l.length] (w.alloc (.cells (l.map .string).toArray 9)) (LayE B X L w (M.putsM s l)) := by
  have hb : Below w.heap.size w (w.alloc (.cells (l.map .string).toArray 9)) := (Below.refl _ _).alloc (Nat.le_refl _) _
  refine (put_any B _ X L s _ l (h.alloc _) (slAt_new w X 9 l.length l.length (l.map .string) _ (fun hx => Nat.lt_irrefl _ (h.far _ hx).2) (by omega) rfl ⟨Nat.le_refl _, by unfold maxLen; omega⟩)).mono ?_
  rintro e w' ⟨rfl, hr⟩
  exact ⟨rfl, LayR.new hb hr⟩
theorem wordT_key : ∀ p ∈ wordT, (∃ n, p.1 = .int .i64 n) ∧ ∀ q ∈ wordT, p.1 = q.1 → p = q := by
  intro p hp
  simp only [wordT, List.mem_cons, List.not_mem_nil, or_false] at hp
  refine ⟨by rcases hp with rfl | rfl | rfl | rfl | rfl | rfl | rfl <;> exact ⟨_, rfl⟩, fun q hq => ?_⟩
  simp only [wordT, List.mem_cons, List.not_mem_nil, or_false] at hq
  rcases hp with rfl | rfl | rfl | rfl | rfl | rfl | rfl <;> rcases hq with rfl | rfl | rfl | rfl | rfl | rfl | rfl <;> simp
theorem look_word {w : World} {m : Nat} {op : Int} {v : Value} (h : MapAt wordT w m) (hp : (.int .i64 op, v) ∈ wordT) : (Instr.lookup 56 (.map (some m)) (.int .i64 op) false).run Tryz.prog w = .ok v w := by
  obtain ⟨es, c, h1, h2, h3⟩ := h
  refine look_yes Tryz.underlying56 h1 (fun e => ckI w e 9999 op) (findK_int Tryz.underlying3 op _ (fun e he => ?_)) (fun e he hk => ?_) ?_
  · obtain ⟨p, hp, q, _⟩ := h2 e he
    obtain ⟨n, hn⟩ := (wordT_key p hp).1
    exact ⟨n, by rw [q, hn]⟩
  · obtain ⟨p, hp2, q, q2⟩ := h2 e he
    have := (wordT_key p hp2).2 _ hp (by rw [← q, hk])
    rw [q2, this]
  · obtain ⟨e, he, q, _⟩ := h3 _ hp
    exact ⟨e, he, q⟩
theorem field_word (W : World) (x : ByteArray) : (Instr.field 73 (.agg #[.string x]) 0).run Tryz.prog W = .ok (.string x) W := by
  simp [Instr.field, go_sem, part, run_underlying Tryz.underlying73, asAgg]
theorem put_newAt (B : Nat) (w : World) (X : Nat → Prop) (L : Nat) (s : Option (List UInt8)) (l : List ByteArray) (k : Nat) (hk : w.heap.size = k) (h : Lay B w X L s) (hn : l.length ≤ 100) :
    Calls Tryz.prog 43 #[.pointer (some ⟨L, 0, none⟩), .slice (some ⟨k, 0, none⟩) l.length l.length] (w.alloc (.cells (l.map .string).toArray 9)) (LayE B X L w (M.putsM s l)) := by
  subst hk; exact put_new B w X L s l h hn
set_option maxRecDepth 8000 in
set_option maxHeartbeats 1000000 in
theorem lword_any (B : Nat) (w : World) (X : Nat → Prop) (L : Nat) (s : Option (List UInt8)) (op : Int) (kw : ByteArray) (h : Lay B w X L s) (hp : (.int .i64 op, .agg #[.string kw]) ∈ wordT) :
    Calls Tryz.prog 41 #[.pointer (some ⟨L, 0, none⟩), .int .i64 op] w (LayE B X L w (M.putsM s [kw])) := by
  have hL := h
  obtain ⟨hX, hf, tb, v, mw, mo, bs, q1, q2, q3, q6, q7, q8, q9⟩ := h
  obtain ⟨va, vc, rfl⟩ := own_form q8
  obtain ⟨c0, c1, c2, c3, cf, cz⟩ := cells4 q1
  have hlk := look_word q2.1 hp
  have hfd := field_word w kw
  go_enter Tryz.func41, Tryz.ntmps41
  go_wp2_with (go_at_call 43; refine stopHere ?_)
  refine stopAt ?_
  refine (put_new B w X L s [kw] hL (by simp)).mono ?_
  rintro e w1 ⟨rfl, hr⟩
  go_wp2_with fail
  go_end0
  exact ⟨rfl, hr⟩
theorem dig_eq : ∀ n : Nat, M.dig n = Lib.decDigits n := by
  intro n
  induction n using Nat.strongRecOn with
  | _ n ih =>
    rw [M.dig, Lib.decDigits]
    split
    · rfl
    · rename_i h
      rw [ih (n / 10) (by omega)]
theorem sgn_eq (n : Int) : (⟨(Lib.itoa n).toArray⟩ : ByteArray) = M.sgnT n := by
  unfold Lib.itoa M.sgnT
  split
  · rw [dig_eq]
    congr 3
    congr 1
    omega
  · rw [M.digT, dig_eq]
def operW (o : M.Opd) : ByteArray := if o = ⟨0, 0, M.em⟩ then M.kNull else if o = ⟨1, 0, M.em⟩ then M.kFalse else if o = ⟨1, 1, M.em⟩ then M.kTrue else M.em
theorem look_oper {w : World} {m : Nat} (h : MapAt operT w m) (o : M.Opd) : (Instr.lookup 57 (.map (some m)) (.agg #[.int .i64 o.k, .int .i64 o.n, .string o.s]) false).run Tryz.prog w = .ok (.agg #[.string (operW o)]) w := by
  obtain ⟨k, n, s⟩ := o
  obtain ⟨es, c, h1, h2, h3⟩ := h
  have hint : ∀ e ∈ es.toList, ∃ r : Bool, (Op.equal 47 (.agg #[.int .i64 k, .int .i64 n, .string s]) e.key).run Tryz.prog w = .ok r w ∧ (r = true ↔ e.key = .agg #[.int .i64 k, .int .i64 n, .string s]) := fun e he => by
    obtain ⟨p, hp, q, _⟩ := h2 e he
    simp only [operT, List.mem_cons, List.not_mem_nil, or_false] at hp
    rcases hp with rfl | rfl | rfl <;> (rw [q]; refine ⟨_, eqOp w _ _ _ _ _ _, ?_⟩; simp only [decide_eq_true_eq, Value.agg.injEq, Array.mk.injEq, List.cons.injEq, Value.int.injEq, true_and, Value.string.injEq, and_true]; constructor <;> (rintro ⟨a, b, c⟩; exact ⟨a.symm, b.symm, c.symm⟩))
  have hf : FindK Tryz.prog w 47 (.agg #[.int .i64 k, .int .i64 n, .string s]) es.toList := by
    have he := run_findKey_eq (P := Tryz.prog) w (k := 47) (by rw [Tryz.underlying47]) (.agg #[.int .i64 k, .int .i64 n, .string s]) es.toList
    unfold FindK
    rw [he]
    exact findAsk es.toList 0 hint
  have yes : ∀ v, (.agg #[.int .i64 k, .int .i64 n, .string s], v) ∈ operT → (Instr.lookup 57 (.map (some m)) (.agg #[.int .i64 k, .int .i64 n, .string s]) false).run Tryz.prog w = .ok v w := fun v hv => by
    refine look_yes Tryz.underlying57 h1 (fun e => ckOp w e 9998 k n s) hf (fun e he hk => ?_) ?_
    · obtain ⟨p, hp, q, q2⟩ := h2 e he
      rw [q] at hk
      rw [q2]
      simp only [operT, List.mem_cons, List.not_mem_nil, or_false, Prod.mk.injEq] at hp hv
      rcases hp with rfl | rfl | rfl <;> rcases hv with ⟨hv, rfl⟩ | ⟨hv, rfl⟩ | ⟨hv, rfl⟩ <;> simp only at hk ⊢ <;> rw [hv] at hk <;> simp at hk
    · obtain ⟨e, he, q, _⟩ := h3 _ hv
      exact ⟨e, he, q⟩
  unfold operW
  by_cases e1 : (⟨k, n, s⟩ : M.Opd) = ⟨0, 0, M.em⟩
  · rw [if_pos e1]; cases e1; exact yes _ (by simp [operT, M.em])
  · rw [if_neg e1]
    by_cases e2 : (⟨k, n, s⟩ : M.Opd) = ⟨1, 0, M.em⟩
    · rw [if_pos e2]; cases e2; exact yes _ (by simp [operT, M.em])
    · rw [if_neg e2]
      by_cases e3 : (⟨k, n, s⟩ : M.Opd) = ⟨1, 1, M.em⟩
      · rw [if_pos e3]; cases e3; exact yes _ (by simp [operT, M.em])
      · rw [if_neg e3]
        refine look_no Tryz.underlying57 h1 (fun e => ckOp w e 9998 k n s) hf (by kernel_rfl) (fun e he hk => ?_)
        obtain ⟨p, hp, q, q2⟩ := h2 e he
        rw [q] at hk
        simp only [operT, List.mem_cons, List.not_mem_nil, or_false] at hp
        rcases hp with rfl | rfl | rfl <;> simp only [Value.agg.injEq, Array.mk.injEq, List.cons.injEq, Value.int.injEq, true_and, Value.string.injEq, and_true] at hk
        · exact e1 (by obtain ⟨rfl, rfl, rfl⟩ := hk; rfl)
        · exact e2 (by obtain ⟨rfl, rfl, rfl⟩ := hk; rfl)
        · exact e3 (by obtain ⟨rfl, rfl, rfl⟩ := hk; rfl)
def InI (n : Int) : Prop := -9223372036854775808 ≤ n ∧ n ≤ 9223372036854775807
theorem grow_below (w : World) (os : Array Obj) : Below w.heap.size w (Sort.grow w os) := ⟨rfl, rfl, rfl, by simp [Sort.grow], fun k hk => by simp [Sort.grow, Array.getElem?_append_left hk]⟩
theorem laidAt_some {a : List M.Opd} {i : Nat} (hi : i < a.length) : M.laidAt a i = M.laidO a[i] := by unfold M.laidAt; rw [List.getElem?_eq_getElem hi]
theorem laidO_num {o : M.Opd} (h : o.k = 2) : M.laidO o = [M.sgnT o.n] := by unfold M.laidO; rw [if_pos h]
theorem laidO_fun {o : M.Opd} (h : o.k = 3) : M.laidO o = [M.ch 38, o.s] := by unfold M.laidO; rw [if_neg (by omega), if_pos h]
theorem laidO_var {o : M.Opd} (h : o.k = 4) : M.laidO o = [o.s] := by unfold M.laidO; rw [if_neg (by omega), if_neg (by omega), if_pos h]
theorem laidO_else {o : M.Opd} (h2 : o.k ≠ 2) (h3 : o.k ≠ 3) (h4 : o.k ≠ 4) : M.laidO o = [operW o] := by
  unfold M.laidO operW
  rw [if_neg h2, if_neg h3, if_neg h4]
  split
  · rfl
  · split
    · rfl
    · split <;> rfl

set_option maxRecDepth 8000 in
set_option maxHeartbeats 2000000 in
theorem loperand_any (B : Nat) (w : World) (X : Nat → Prop) (L : Nat) (s : Option (List UInt8)) (va : Value) (a : List M.Opd) (i : Nat) (h : Lay B w X L s) (ha : OpsAt w (Hi B) va a) (hr : ∀ o ∈ a, InI o.n) (hi0 : i ≤ 4398046511104) :
    Calls Tryz.prog 42 #[.pointer (some ⟨L, 0, none⟩), va, .int .i64 (i : Nat)] w (LayE B X L w (M.putsM s (M.laidAt a i))) := by
  obtain ⟨hlen, ad, cap, rfl, hc⟩ := ops_cells ha
  by_cases hi : i < a.length
  · rcases hc with rfl | ⟨b, o, rfl, hlt, hc⟩
    · simp at hi
    obtain ⟨f0, f1, f2⟩ := hc i hi
    have hrn := hr _ (List.getElem_mem hi)
    have HA : Hid (M.laidAt a i = M.laidO a[i]) := laidAt_some hi
    have hii : ¬ ((a.length : Int) ≤ (i : Int)) := by omega
    have hii2 : (i : Int) < (a.length : Int) := by omega
    clear hc ha hr
    generalize a[i] = q at f0 f1 f2 hrn HA
    obtain ⟨k, n, t⟩ := q
    simp only at f0 f1 f2 hrn
    have hL := h
    have hb0 : Below w.heap.size w (w.alloc (.cells #[.int .i64 k, .int .i64 n, .string t] 47)) := (Below.refl _ _).alloc (Nat.le_refl _) _
    have h0 := h.alloc (.cells #[.int .i64 k, .int .i64 n, .string t] 47)
    have hbx := heap_alloc_new w (.cells #[.int .i64 k, .int .i64 n, .string t] 47)
    have hz0 : (w.alloc (.cells #[.int .i64 k, .int .i64 n, .string t] 47)).heap.size = w.heap.size + 1 := World.size_alloc _ _
    have HZ := hid hz0
    have HX := hid hbx
    clear hz0 hbx
    by_cases k2 : k = 2
    · subst k2
      have HO : Hid (M.laidAt a i = [M.sgnT n]) := HA.out.trans (laidO_num rfl)
      go_enter Tryz.func42, Tryz.ntmps42
      go_wp2_with (go_at_call 65; refine stopHere ?_)
      refine stopAt ?_
      refine (Tryz.strconv_Itoa n hrn.1 hrn.2 _ h0.tab.tab).mono ?_
      rintro e w1 ⟨rfl, dn, os, rfl⟩
      have hb : Below w.heap.size w (Sort.grow ((w.alloc (.cells #[.int .i64 2, .int .i64 n, .string t] 47)).drewN dn) os) := (below_drewN hb0 dn).trans ((grow_below _ os).mono (by show w.heap.size ≤ (w.alloc _).heap.size; simp))
      have h1 := h.keep hb
      rw [sgn_eq]
      generalize Sort.grow ((w.alloc (.cells #[.int .i64 2, .int .i64 n, .string t] 47)).drewN dn) os = W at hb h1
      go_wp2_with (go_at_call 43; refine stopHere ?_)
      refine stopAt ?_
      refine (put_new B W X L s [M.sgnT n] h1 (by simp)).mono ?_
      rintro e w2 ⟨rfl, hr2⟩
      go_wp2_with fail
      go_end0
      exact ⟨rfl, by rw [HO.out]; exact LayR.new hb hr2⟩
    · by_cases k3 : k = 3
      · subst k3
        have HO : Hid (M.laidAt a i = [M.ch 38] ++ [t]) := HA.out.trans (laidO_fun rfl)
        go_enter Tryz.func42, Tryz.ntmps42
        go_wp2_with (go_at_call 43; refine stopHere ?_)
        refine stopAt ?_
        refine (put_newAt B _ X L s [M.ch 38] (w.heap.size + 1) HZ.out h0 (by simp)).mono ?_
        rintro e w1 ⟨rfl, X1, l1, t1, x1⟩
        have hbx1 := (t1.block w.heap.size (by rw [HZ.out]; omega) (fun hx => Nat.lt_irrefl _ (h.far _ hx).2)).trans HX.out
        obtain ⟨g0, g1, g2, gf, gz⟩ := cells3 hbx1
        go_wp2_with (go_at_call 43; refine stopHere ?_)
        refine stopAt ?_
        refine (put_new B w1 X1 L _ [t] l1 (by simp)).mono ?_
        rintro e w2 ⟨rfl, hr2⟩
        go_wp2_with fail
        go_end0
        exact ⟨rfl, by rw [HO.out, M.putsM_app]; exact LayR.new hb0 (LayR.next t1 x1 hr2)⟩
      · by_cases k4 : k = 4
        · subst k4
          have HO : Hid (M.laidAt a i = [t]) := HA.out.trans (laidO_var rfl)
          go_enter Tryz.func42, Tryz.ntmps42
          go_wp2_with (go_at_call 43; refine stopHere ?_)
          refine stopAt ?_
          refine (put_newAt B _ X L s [t] (w.heap.size + 1) HZ.out h0 (by simp)).mono ?_
          rintro e w2 ⟨rfl, hr2⟩
          go_wp2_with fail
          go_end0
          exact ⟨rfl, by rw [HO.out]; exact LayR.new hb0 hr2⟩
        · have HO : Hid (M.laidAt a i = [operW ⟨k, n, t⟩]) := HA.out.trans (laidO_else k2 k3 k4)
          have b2 : (k == 2) = false := by simpa using k2
          have b3 : (k == 3) = false := by simpa using k3
          have b4 : (k == 4) = false := by simpa using k4
          clear k2 k3 k4
          have h0d := h0.drew
          have hL0 := h0d
          obtain ⟨hX, hf, tb, v, mw, mo, bs, q1, q2, q3, q6, q7, q8, q9⟩ := h0d
          obtain ⟨va, vc, rfl⟩ := own_form q8
          obtain ⟨c0, c1, c2, c3, cf, cz⟩ := cells4 q1
          have hlk := look_oper q3.1 ⟨k, n, t⟩
          simp only at hlk
          obtain ⟨g0, g1, g2, gf, gz⟩ := cells3 (show (w.alloc (.cells #[.int .i64 k, .int .i64 n, .string t] 47)).drew.heap[w.heap.size]? = _ from HX.out)
          have HP : Hid (Calls Tryz.prog 43 #[.pointer (some ⟨L, 0, none⟩), .slice (some ⟨w.heap.size + 1, 0, none⟩) 1 1] ((w.alloc (.cells #[.int .i64 k, .int .i64 n, .string t] 47)).drew.alloc (.cells #[.string (operW ⟨k, n, t⟩)] 9)) (LayE B X L (w.alloc (.cells #[.int .i64 k, .int .i64 n, .string t] 47)).drew (M.putsM s [operW ⟨k, n, t⟩]))) :=
            put_newAt B _ X L s [operW ⟨k, n, t⟩] (w.heap.size + 1) HZ.out hL0 (by simp)
          have hfd := field_word (w.alloc (.cells #[.int .i64 k, .int .i64 n, .string t] 47)).drew (operW ⟨k, n, t⟩)
          have hbd : Below w.heap.size w (w.alloc (.cells #[.int .i64 k, .int .i64 n, .string t] 47)).drew := hb0.drew
          clear q6 q7 q8 q9 hL0 h0
          go_enter Tryz.func42, Tryz.ntmps42
          go_wp2_with fail
          go_region_with (go_at_call 43; refine HP.out.mono ?_; rintro e w2 ⟨rfl, hr2⟩)
          all_goals
            go_wp2_with fail
            go_end0
            exact ⟨rfl, by rw [HO.out]; exact LayR.new hbd hr2⟩
  · have HO : Hid (M.laidAt a i = []) := by unfold Hid M.laidAt; rw [List.getElem?_eq_none (by omega)]
    have hii : ((a.length : Int) ≤ (i : Int)) := by omega
    go_enter Tryz.func42, Tryz.ntmps42
    go_wp2_with fail
    go_end0
    exact ⟨rfl, by rw [HO.out]; exact LayR.refl h⟩
end Go.Proofs.YtkpmpnebmkeocaaGreatDoor
