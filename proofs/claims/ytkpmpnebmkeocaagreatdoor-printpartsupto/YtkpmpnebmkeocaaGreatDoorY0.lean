/-
  What a search in a map comes to, a map that is filled in an order which Go leaves open, and a law for such regions. Nothing of the program's code is walked here. No conditions.
-/
import Derived.Test.YtkpmpnebmkeocaaGreatDoorU1
import Derived.WideKeyRuns
set_option linter.unusedVariables false
set_option linter.unusedSimpArgs false
namespace Go.Proofs.YtkpmpnebmkeocaaGreatDoor
open Go.RowKit

section
variable {P : Program}
def FindK (P : Program) (w : World) (kt : TypeId) (k : Value) (es : List MapEntry) : Prop :=
  ((∀ e ∈ es, e.key ≠ k) ∧ (Instr.findKey kt k es).run P w = .ok none w) ∨ ∃ i e, e ∈ es ∧ e.key = k ∧ (Instr.findKey kt k es).run P w = .ok (some (i, e.val)) w
theorem findNow_int (q : IntKind) (n : Int) : ∀ (es : List MapEntry) (i : Nat), (∀ e ∈ es, ∃ m, e.key = .int q m) →
    ((∀ e ∈ es, e.key ≠ .int q n) ∧ Instr.findNow (.int q) (.int q n) es i = some none) ∨ ∃ j e, e ∈ es ∧ e.key = .int q n ∧ Instr.findNow (.int q) (.int q n) es i = some (some (j, e.val))
  | [], i, _ => .inl ⟨(fun e he => nomatch he), rfl⟩
  | e :: es, i, h => by
    obtain ⟨m, hm⟩ := h e (List.mem_cons_self ..)
    by_cases hn : n = m
    · subst hn
      exact .inr ⟨i, e, List.mem_cons_self .., hm, by simp [Instr.findNow, hm, Instr.sameNow]⟩
    · have hs : Instr.findNow (.int q) (.int q n) (e :: es) i = Instr.findNow (.int q) (.int q n) es (i + 1) := by
        have hb : (n == m) = false := by simpa using hn
        simp [Instr.findNow, hm, Instr.sameNow, hb]
      rcases findNow_int q n es (i + 1) (fun x hx => h x (List.mem_cons_of_mem _ hx)) with ⟨h1, h2⟩ | ⟨j, x, h1, h2, h3⟩
      · refine .inl ⟨fun x hx => ?_, hs.trans h2⟩
        rcases List.mem_cons.1 hx with rfl | hx
        · rw [hm]; simp; omega
        · exact h1 x hx
      · exact .inr ⟨j, x, List.mem_cons_of_mem _ h1, h2, hs.trans h3⟩
theorem findK_int {w : World} {kt : TypeId} {q : IntKind} (hk : P.underlying kt = some (.int q)) (n : Int) (es : List MapEntry) (h : ∀ e ∈ es, ∃ m, e.key = .int q m) : FindK P w kt (.int q n) es := by
  rcases findNow_int q n es 0 h with ⟨h1, h2⟩ | ⟨j, e, h1, h2, h3⟩
  · exact .inl ⟨h1, MapKept.run_findKey hk h2⟩
  · exact .inr ⟨j, e, h1, h2, MapKept.run_findKey hk h3⟩
theorem findAsk {w : World} {kt : TypeId} {k : Value} : ∀ (es : List MapEntry) (i : Nat), (∀ e ∈ es, ∃ r : Bool, (Op.equal kt k e.key).run P w = .ok r w ∧ (r = true ↔ e.key = k)) →
    ((∀ e ∈ es, e.key ≠ k) ∧ (Instr.findAsking kt k es i).run P w = .ok none w) ∨ ∃ j e, e ∈ es ∧ e.key = k ∧ (Instr.findAsking kt k es i).run P w = .ok (some (j, e.val)) w
  | [], i, _ => .inl ⟨(fun e he => nomatch he), rfl⟩
  | e :: es, i, h => by
    obtain ⟨r, hr, hm⟩ := h e (List.mem_cons_self ..)
    cases r with
    | true => exact .inr ⟨i, e, List.mem_cons_self .., hm.1 rfl, by simp [Instr.findAsking, hr]⟩
    | false =>
      have hs : (Instr.findAsking kt k (e :: es) i).run P w = (Instr.findAsking kt k es (i + 1)).run P w := by simp [Instr.findAsking, hr]
      rcases findAsk es (i + 1) (fun x hx => h x (List.mem_cons_of_mem _ hx)) with ⟨h1, h2⟩ | ⟨j, x, h1, h2, h3⟩
      · refine .inl ⟨fun x hx => ?_, hs.trans h2⟩
        rcases List.mem_cons.1 hx with rfl | hx
        · intro e; exact absurd (hm.2 e) (by simp)
        · exact h1 x hx
      · exact .inr ⟨j, x, List.mem_cons_of_mem _ h1, h2, hs.trans h3⟩
theorem look_yes {w : World} {T kt et b c : Nat} {es : Array MapEntry} {k v : Value} (ht : P.underlying T = some (.map kt et)) (hm : w.heap[b]? = some (.map es c)) (hck : ∀ e, (Instr.checkKey e 10000 kt k).run P w = .ok () w)
    (hf : FindK P w kt k es.toList) (hv : ∀ e ∈ es.toList, e.key = k → e.val = v) (hex : ∃ e ∈ es.toList, e.key = k) : (Instr.lookup T (.map (some b)) k false).run P w = .ok v w := by
  rcases hf with ⟨h, _⟩ | ⟨i, e, he, hk, hr⟩
  · obtain ⟨e, he, hk⟩ := hex; exact absurd hk (h e he)
  · rw [hv e he hk] at hr
    simp [Instr.lookup, run_underlying ht, MapKept.run_getObj_map hm, hck, hr, Result.andThen]
theorem look_no {w : World} {T kt et b c : Nat} {es : Array MapEntry} {k z : Value} (ht : P.underlying T = some (.map kt et)) (hm : w.heap[b]? = some (.map es c)) (hck : ∀ e, (Instr.checkKey e 10000 kt k).run P w = .ok () w)
    (hf : FindK P w kt k es.toList) (hz : (zeroValue et).run P w = .ok z w) (hno : ∀ e ∈ es.toList, e.key ≠ k) : (Instr.lookup T (.map (some b)) k false).run P w = .ok z w := by
  rcases hf with ⟨_, hr⟩ | ⟨i, e, he, hk, hr⟩
  · simp [Instr.lookup, run_underlying ht, MapKept.run_getObj_map hm, hck, hr, hz, Result.andThen]
  · exact absurd hk (hno e he)
theorem upd_new {w : World} {T kt et b c : Nat} {es : Array MapEntry} {k v : Value} (ht : P.underlying T = some (.map kt et)) (hm : w.heap[b]? = some (.map es c)) (hck : ∀ e, (Instr.checkKey e 10000 kt k).run P w = .ok () w)
    (hf : FindK P w kt k es.toList) (hno : ∀ e ∈ es.toList, e.key ≠ k) : (Instr.mapUpdate T (.map (some b)) k v).run P w = .ok () (w.putObj b (.map (es.push { key := k, val := v, born := c }) (c + 1))) := by
  rcases hf with ⟨_, hr⟩ | ⟨i, e, he, hk, hr⟩
  · simp [Instr.mapUpdate, run_underlying ht, MapKept.run_getObj_map hm, hck, hr, MapKept.run_setObj_map _ hm, Result.andThen, World.putObj]
  · exact absurd hk (hno e he)

theorem wpAny_inv {md : Region.Mode} {ops : Array Oper} {Q : Exit → Act → World → Prop} (Inv : Array Bool → Act → World → Prop)
    (step : ∀ listed a w, Inv listed a w → ∀ i ∈ Region.ready md ops listed, wpOp P ops Q i (fun a' w' => Inv (listed.setIfInBounds i true) a' w') a w)
    (fin : ∀ listed a w, Inv listed a w → Region.ready md ops listed = [] → Q .normal a w) :
    ∀ (fuel : Nat) (listed : Array Bool) (a : Act) (w : World), listed.toList.count false ≤ fuel → Inv listed a w → wpAny P md ops Q fuel listed a w := by
  intro fuel
  have lt_of : ∀ (listed : Array Bool) (i : Nat), i ∈ Region.ready md ops listed → ∃ h : i < listed.size, listed[i] = false := fun listed i hi => by
    have h0 := (mem_ready.1 hi).1
    rw [Array.getD_eq_getD_getElem?] at h0
    cases e : listed[i]? with
    | none => rw [e] at h0; cases h0
    | some b =>
      rw [e] at h0
      obtain ⟨hlt, hb⟩ := Array.getElem?_eq_some_iff.1 e
      exact ⟨hlt, by rw [hb]; exact h0⟩
  induction fuel with
  | zero =>
    intro listed a w hc hI
    have hr : Region.ready md ops listed = [] := by
      rw [List.eq_nil_iff_forall_not_mem]
      intro i hi
      obtain ⟨hlt, hb⟩ := lt_of listed i hi
      have : false ∈ listed.toList := by rw [← hb, Array.mem_toList_iff]; exact Array.getElem_mem hlt
      have := List.count_pos_iff.2 this
      omega
    exact ⟨hr, fin _ _ _ hI hr⟩
  | succ fuel ih =>
    intro listed a w hc hI
    refine ⟨fin _ _ _ hI, fun i hi => wpOp_mono (fun a' w' h' => ih _ _ _ ?_ h') (step _ _ _ hI i hi)⟩
    obtain ⟨hlt, hb⟩ := lt_of listed i hi
    have e : (listed.setIfInBounds i true).toList = listed.toList.set i true := by simp
    rw [e]
    have hg : listed.toList[i]'(by simpa using hlt) = false := by simpa using hb
    have := List.count_set (a := true) (b := false) (l := listed.toList) (i := i) (by simpa using hlt)
    rw [this, hg]
    show List.count false listed.toList - 1 + 0 ≤ fuel
    omega
theorem all_listed {md : Region.Mode} {ops : Array Oper} {listed : Array Bool} (hs : listed.size = ops.size) (ho : ∀ (i : Nat) (o : Oper), ops[i]? = some o → ∀ e ∈ o.after, e.on < i) (hr : Region.ready md ops listed = []) : ∀ i, i < ops.size → listed.getD i false = true := by
  intro i
  induction i using Nat.strongRecOn with
  | _ i ih =>
    intro hi
    cases hb : listed.getD i false with
    | true => rfl
    | false =>
      have hlt : i < listed.size := by omega
      have : i ∈ Region.ready md ops listed := mem_ready.2 ⟨by rw [Array.getD_eq_getD_getElem?, Array.getElem?_eq_getElem hlt] at hb ⊢; exact hb, ops[i], Array.getElem?_eq_getElem hi, fun e he _ => by
        have h1 := ho i _ (Array.getElem?_eq_getElem hi) e he
        exact ih e.on h1 (by omega)⟩
      rw [hr] at this
      cases this
end
theorem eqOp (w : World) (k n k' n' : Int) (s s' : ByteArray) : (Op.equal 47 (.agg #[.int .i64 k, .int .i64 n, .string s]) (.agg #[.int .i64 k', .int .i64 n', .string s'])).run Tryz.prog w = .ok (decide (k = k' ∧ n = n' ∧ s = s')) w := by
  show (Op.equalIn 10000 _ _ _).run Tryz.prog w = _
  rw [run_equalIn_agg _ _ _ _ _ (by kernel_rfl) (by kernel_rfl)]
  simp [go_sem]
  by_cases h1 : k = k' <;> by_cases h2 : n = n' <;> by_cases h3 : s = s' <;> simp [h1, h2, h3, toList_inj]
theorem ckI (w : World) (b : Bool) (d : Nat) (k : Int) : (Instr.checkKey b (d + 1) 3 (.int .i64 k)).run Tryz.prog w = .ok () w := by
  simp [Instr.checkKey, run_underlying Tryz.underlying3]
theorem ckS (w : World) (b : Bool) (d : Nat) (k : ByteArray) : (Instr.checkKey b (d + 1) 9 (.string k)).run Tryz.prog w = .ok () w := by
  simp [Instr.checkKey, run_underlying Tryz.underlying9]
theorem ckOp (w : World) (b : Bool) (d : Nat) (k n : Int) (s : ByteArray) : (Instr.checkKey b (d + 1 + 1) 47 (.agg #[.int .i64 k, .int .i64 n, .string s])).run Tryz.prog w = .ok () w := by
  unfold Instr.checkKey
  simp [run_underlying Tryz.underlying47, part, go_sem, ckI, ckS]
end Go.Proofs.YtkpmpnebmkeocaaGreatDoor
