/-
  Plain facts on programs: what is parsed may be printed; how long its print is. Operands, lists, values. Nothing of the program is named here. No conditions.
-/
import Derived.Test.YtkpmpnebmkeocaaGreatDoorOA
set_option linter.unusedVariables false
section
namespace Go.Proofs.YtkpmpnebmkeocaaGreatDoor
namespace M

def WT : List TK → Nat
  | [] => 0
  | x :: l => x.2.size + 1 + WT l
def W (l : List Tok) : Nat := WT (sp l)
theorem WT_app (a b : List TK) : WT (a ++ b) = WT a + WT b := by
  induction a with
  | nil => simp [WT]
  | cons x a ih => simp only [List.cons_append, WT, ih]; omega
theorem WT_cons (x : TK) (b : List TK) : WT (x :: b) = x.2.size + 1 + WT b := rfl
theorem WT_nil : WT [] = 0 := rfl

theorem now_w {S : St} (h : S.now.k ≠ -1) : may1 S.now = true ∧ W S.rest = S.now.t.size + 1 + W S.adv.rest := by
  obtain ⟨rest, fin, n, d⟩ := S
  cases rest with
  | nil => exact absurd rfl h
  | cons x l =>
    by_cases hx : may1 x = true
    · have e : (St.mk (x :: l) fin n d).now = x := by simp [St.now, now1, hx]
      rw [e]
      exact ⟨hx, rfl⟩
    · have e : (St.mk (x :: l) fin n d).now = ⟨-1, em, x.p⟩ := by simp [St.now, now1, hx]
      rw [e] at h
      exact absurd rfl h
theorem now_t {S : St} (h : S.now.t ≠ em) : S.now.k ≠ -1 := by
  obtain ⟨rest, fin, n, d⟩ := S
  cases rest with
  | nil => exact absurd rfl h
  | cons x l =>
    by_cases hx : may1 x = true
    · have e : (St.mk (x :: l) fin n d).now = x := by simp [St.now, now1, hx]
      rw [e]
      intro hk
      unfold may1 at hx
      rw [hk] at hx
      simp at hx
    · have e : (St.mk (x :: l) fin n d).now = ⟨-1, em, x.p⟩ := by simp [St.now, now1, hx]
      rw [e] at h
      exact absurd rfl h
theorem at_w {S : St} {t : ByteArray} (h : S.at t = true) (ht : t ≠ em) : W S.rest = t.size + 1 + W S.adv.rest := by
  have e : S.now.t = t := of_decide_eq_true h
  have := (now_w (now_t (by rw [e]; exact ht))).2
  rw [e] at this; exact this
theorem take_w {S S' : St} {t : ByteArray} {u : Unit} (h : take S t = .ok (S', u)) (ht : t ≠ em) : W S.rest = t.size + 1 + W S'.rest := by
  obtain ⟨h1, rfl⟩ := take_ok h
  exact at_w h1 ht
theorem name_w {S S' : St} {s : ByteArray} (h : name S = .ok (S', s)) : nm s = true ∧ W S.rest = s.size + 1 + W S'.rest := by
  unfold name at h
  split at h
  · rename_i h1
    cases h
    simp only [St.isName, Bool.and_eq_true, decide_eq_true_eq] at h1
    have h2 := now_w (S := S) (by omega)
    refine ⟨?_, h2.2⟩
    have h3 := h2.1
    unfold may1 at h3
    rw [if_pos h1.1] at h3
    simp only [nm, Bool.and_eq_true]
    exact ⟨h3, h1.2⟩
  · cases h

theorem foldl_dig : ∀ (l : List UInt8) (a : Int), (∀ c ∈ l, pDig c = true) → 0 ≤ a → 0 ≤ l.foldl (fun n c => 10 * n + ((c.toNat : Int) - 48)) a ∧ l.foldl (fun n c => 10 * n + ((c.toNat : Int) - 48)) a < (a + 1) * 10 ^ l.length
  | [], a, _, h => by simp only [List.foldl_nil, List.length_nil, Int.pow_zero]; omega
  | c :: l, a, hc, h => by
    have h1 : 48 ≤ c.toNat ∧ c.toNat ≤ 57 := by
      have h4 : ∀ n : Fin 256, cls (n.val : Int) = 4 → 48 ≤ n.val ∧ n.val ≤ 57 := by decide +kernel
      have := hc c (List.mem_cons_self ..)
      exact h4 ⟨c.toNat, c.toNat_lt⟩ (of_decide_eq_true this)
    have ih := foldl_dig l (10 * a + ((c.toNat : Int) - 48)) (fun x hx => hc x (List.mem_cons_of_mem _ hx)) (by omega)
    refine ⟨ih.1, Int.lt_of_lt_of_le ih.2 ?_⟩
    rw [List.length_cons, Int.pow_succ]
    have e : (a + 1) * (10 ^ l.length * 10) = (10 * a + 10) * 10 ^ l.length := by
      rw [Int.mul_comm (10 ^ l.length) 10, ← Int.mul_assoc, Int.add_mul a 1 10]; congr 1; omega
    rw [e]
    exact Int.mul_le_mul_of_nonneg_right (by omega) (Int.pow_nonneg (by decide))
theorem num_w {t : ByteArray} (h : numB t.data.toList = true) : 0 ≤ numV t.data.toList ∧ numV t.data.toList ≤ 999999999 ∧ (digT (numV t.data.toList)).size ≤ t.size := by
  have e : t.size = t.data.toList.length := by rw [Array.length_toList]; rfl
  rw [e]
  generalize t.data.toList = l at h ⊢
  simp only [numB, Bool.and_eq_true, decide_eq_true_eq, beq_iff_eq] at h
  obtain ⟨h1, h2, h3⟩ := h
  have h4 := foldl_dig l 0 (ext0_all h3) (Int.le_refl 0)
  have h5 : 0 ≤ numV l := h4.1
  have h6 : numV l < 10 ^ l.length := by have := h4.2; rw [Int.zero_add, Int.one_mul] at this; exact this
  cases l with
  | nil => simp at h1
  | cons c r =>
    have h7 : (numV (c :: r)).toNat < 10 ^ (r.length + 1) := by
      have e : ((10 ^ (r.length + 1) : Nat) : Int) = 10 ^ (r.length + 1) := by simp
      rw [List.length_cons, ← e] at h6
      omega
    refine ⟨h5, ?_, ?_⟩
    · have h8 : 10 ^ (r.length + 1) ≤ 10 ^ 9 := Nat.pow_le_pow_right (by decide) h2
      have e9 : 10 ^ 9 = 1000000000 := by decide
      omega
    · have := dig_len r.length _ h7
      simpa [digT, ByteArray.size] using this

theorem operand_w {S S' : St} {o : Opd} (h : operand S = .ok (S', o)) : rOpd o ∧ W S'.rest + WT (tkOpd o) ≤ W S.rest := by
  unfold operand at h
  split at h
  · rename_i h1; cases h
    exact ⟨.inl (.inl rfl), by rw [at_w h1 (by decide)]; show _ + WT [(0, kNull)] ≤ _; simp only [WT]; omega⟩
  · split at h
    · rename_i h1; cases h
      exact ⟨.inl (.inr (.inl rfl)), by rw [at_w h1 (by decide)]; show _ + WT [(0, kTrue)] ≤ _; simp only [WT]; omega⟩
    · split at h
      · rename_i h1; cases h
        exact ⟨.inl (.inr (.inr rfl)), by rw [at_w h1 (by decide)]; show _ + WT [(0, kFalse)] ≤ _; simp only [WT]; omega⟩
      · split at h
        · rename_i h1
          obtain ⟨S1, n, h2, h3⟩ := bnd_ok h
          cases h3
          obtain ⟨h4, h5⟩ := name_w h2
          exact ⟨.inr (.inr ⟨.inl rfl, rfl, h4⟩), by rw [at_w h1 (by decide)]; show _ + WT [(2, ch 38), (0, n)] ≤ _; simp only [WT]; omega⟩
        · split at h
          · rename_i h1; cases h
            have h2 := now_w (S := S) (by omega)
            have h3 := h2.1
            unfold may1 at h3
            rw [if_neg (by omega), if_pos h1] at h3
            obtain ⟨h4, h5, h6⟩ := num_w h3
            exact ⟨.inr (.inl ⟨rfl, h4, h5, rfl⟩), by rw [h2.2]; show _ + WT [(1, digT _)] ≤ _; simp only [WT]; omega⟩
          · obtain ⟨S1, n, h2, h3⟩ := bnd_ok h
            cases h3
            obtain ⟨h4, h5⟩ := name_w h2
            exact ⟨.inr (.inr ⟨.inr rfl, rfl, h4⟩), by show _ + WT [(0, n)] ≤ _; simp only [WT]; omega⟩

theorem WT_more_cons {α : Type} (tk : α → List TK) (o : α) (l : List α) : WT (tkMore tk (o :: l)) = 2 + WT (tk o) + WT (tkMore tk l) := by
  have e : tkMore tk (o :: l) = (2, ch 44) :: (tk o ++ tkMore tk l) := by simp [tkMore]
  have e2 : (ch 44).size = 1 := rfl
  rw [e, WT_cons, WT_app]
  simp only [e2]; omega
theorem more_w {α β : Type} {item : St → β → Res β} {tk : α → List TK} {P : α → Prop} {add : β → α → β}
    (hi : ∀ S b S' b', item S b = .ok (S', b') → ∃ o, b' = add b o ∧ P o ∧ W S'.rest + WT (tk o) ≤ W S.rest) :
    ∀ (k : Nat) {S S' : St} {b b' : β}, more item k S b = .ok (S', b') → ∃ l : List α, b' = l.foldl add b ∧ (∀ o ∈ l, P o) ∧ W S'.rest + WT (tkMore tk l) ≤ W S.rest
  | 0, S, S', b, b', h => by cases h; exact ⟨[], rfl, (fun _ h => by cases h), Nat.le_refl _⟩
  | k + 1, S, S', b, b', h => by
    unfold more at h
    split at h
    · rename_i h0
      obtain ⟨S1, b1, h1, h2⟩ := bnd_ok h
      obtain ⟨o, rfl, po, wo⟩ := hi _ _ _ _ h1
      obtain ⟨l, rfl, pl, wl⟩ := more_w hi k h2
      have w0 := at_w h0 (by decide)
      have e2 : (ch 44).size = 1 := rfl
      refine ⟨o :: l, rfl, fun q hq => ?_, ?_⟩
      · rcases List.mem_cons.1 hq with rfl | hq
        · exact po
        · exact pl q hq
      · rw [WT_more_cons]; omega
    · cases h; exact ⟨[], rfl, (fun _ h => by cases h), Nat.le_refl _⟩
theorem list_w {α β : Type} {item : St → β → Res β} {tk : α → List TK} {P : α → Prop} {add : β → α → β}
    (hi : ∀ S b S' b', item S b = .ok (S', b') → ∃ o, b' = add b o ∧ P o ∧ W S'.rest + WT (tk o) ≤ W S.rest) {last : ByteArray} (hl : last ≠ em)
    {S S' : St} {b b' : β} (h : list last item S b = .ok (S', b')) : ∃ l : List α, b' = l.foldl add b ∧ (∀ o ∈ l, P o) ∧ W S'.rest + WT (tkSeq tk l) + last.size + 1 ≤ W S.rest := by
  unfold list at h
  split at h
  · rename_i h0
    cases h
    exact ⟨[], rfl, (fun _ h => by cases h), by rw [at_w h0 hl]; show _ + 0 + _ + _ ≤ _; omega⟩
  · obtain ⟨S1, b1, h1, h2⟩ := bnd_ok h
    obtain ⟨S2, b2, h3, h4⟩ := bnd_ok h2
    obtain ⟨S3, b3, h5, h6⟩ := bnd_ok h4
    cases h6
    obtain ⟨o, rfl, po, wo⟩ := hi _ _ _ _ h1
    obtain ⟨l, rfl, pl, wl⟩ := more_w hi _ h3
    have w0 := take_w h5 hl
    refine ⟨o :: l, rfl, fun q hq => ?_, ?_⟩
    · rcases List.mem_cons.1 hq with rfl | hq
      · exact po
      · exact pl q hq
    · show _ + WT (tk o ++ tkMore tk l) + _ + _ ≤ _
      rw [WT_app]; omega

theorem oneOperand_w {S S' : St} {l : List Opd} (h : oneOperand S = .ok (S', l)) : ∃ o, l = [o] ∧ rOpd o ∧ W S'.rest + WT (tkOpd o) ≤ W S.rest := by
  obtain ⟨S1, o, h1, h2⟩ := bnd_ok h
  cases h2
  exact ⟨o, rfl, operand_w h1⟩
theorem operands_w {S S' : St} {l : List Opd} (h : operands S = .ok (S', l)) : (∀ o ∈ l, rOpd o) ∧ W S'.rest + WT (tkOps l) ≤ W S.rest := by
  obtain ⟨S1, u, h1, h2⟩ := bnd_ok h
  obtain ⟨l', e, pl, wl⟩ := list_w (tk := tkOpd) (P := rOpd) (add := fun b o => b ++ [o]) (fun S b S' b' h => by
    obtain ⟨S1, o, h1, h2⟩ := bnd_ok h
    cases h2
    exact ⟨o, rfl, operand_w h1⟩) (by decide) h2
  rw [foldl_snoc, List.nil_append] at e
  subst e
  have w0 := take_w h1 (by decide)
  have e1 : (ch 40).size = 1 := rfl
  have e2 : (ch 41).size = 1 := rfl
  refine ⟨pl, ?_⟩
  unfold tkOps
  rw [WT_cons, WT_app, WT_cons, WT_nil]
  simp only; omega
theorem names_w {S S' : St} {l : List ByteArray} (h : list (ch 41) itemName S [] = .ok (S', l)) : (∀ s ∈ l, nm s = true) ∧ W S'.rest + WT (tkSeq (fun s => [(0, s)]) l) + 2 ≤ W S.rest := by
  obtain ⟨l', e, pl, wl⟩ := list_w (tk := fun s => [(0, s)]) (P := fun s => nm s = true) (add := fun b o => b ++ [o]) (fun S b S' b' h => by
    obtain ⟨S1, o, h1, h2⟩ := bnd_ok h
    cases h2
    have := name_w h1
    exact ⟨o, rfl, this.1, by simp only [WT]; omega⟩) (by decide) h
  rw [foldl_snoc, List.nil_append] at e
  subst e
  have e2 : (ch 41).size = 1 := rfl
  exact ⟨pl, by omega⟩
theorem unzip_zip (l : List (ByteArray × Opd)) : (l.map (·.1)).zip (l.map (·.2)) = l := by
  induction l with
  | nil => rfl
  | cons a l ih => simp only [List.map_cons, List.zip_cons_cons, ih]
theorem object_w {S S' : St} {v : Val} (h : object S = .ok (S', v)) : ∃ l o pr, v = ⟨4, em, em, l ++ [o], pr⟩ ∧ (∀ s ∈ pr, nm s = true) ∧ pr.length = l.length ∧ (∀ q ∈ l, rOpd q) ∧ rOpd o ∧ W S'.rest + WT (tkNew pr l o) ≤ W S.rest := by
  obtain ⟨S1, u, h1, h2⟩ := bnd_ok h
  obtain ⟨S2, b, h3, h4⟩ := bnd_ok h2
  obtain ⟨S3, u3, h5, h6⟩ := bnd_ok h4
  obtain ⟨S4, o, h7, h8⟩ := bnd_ok h6
  cases h8
  obtain ⟨l', e, pl, wl⟩ := list_w (tk := tkProp) (P := fun q => nm q.1 = true ∧ rOpd q.2) (add := fun b o => (b.1 ++ [o.1], b.2 ++ [o.2])) (fun S b S' b' h => by
    obtain ⟨S1, s, h1, h2⟩ := bnd_ok h
    obtain ⟨S2, u, h3, h4⟩ := bnd_ok h2
    obtain ⟨S3, o, h5, h6⟩ := bnd_ok h4
    cases h6
    have a1 := name_w h1
    have a2 := take_w h3 (by decide)
    have a3 := operand_w h5
    have e2 : (ch 58).size = 1 := rfl
    refine ⟨(s, o), rfl, ⟨a1.1, a3.1⟩, ?_⟩
    unfold tkProp
    rw [WT_cons, WT_cons]
    simp only; omega) (by decide) h3
  rw [foldl_prop, List.nil_append, List.nil_append] at e
  subst e
  have a1 := take_w h1 (by decide)
  have a2 := take_w h5 (by decide)
  have a3 := operand_w h7
  have e1 : (ch 123).size = 1 := rfl
  have e2 : (ch 125).size = 1 := rfl
  refine ⟨_, o, _, rfl, fun s hs => ?_, by simp, fun q hq => ?_, a3.1, ?_⟩
  · obtain ⟨q, hq, rfl⟩ := List.mem_map.1 hs; exact (pl q hq).1
  · obtain ⟨r, hr, rfl⟩ := List.mem_map.1 hq; exact (pl r hr).2
  · unfold tkNew
    simp only [unzip_zip]
    rw [WT_cons, WT_app, WT_cons, WT_cons]
    simp only; omega
theorem arith_w {S : St} (h : S.atArith = true) : arS S.now.t ∧ W S.rest = S.now.t.size + 1 + W S.adv.rest := by
  have h1 : arS S.now.t := by
    unfold St.atArith at h
    simp only [Bool.or_eq_true] at h
    rcases h with h | h | h | h | h
    · exact .inl (of_decide_eq_true h)
    · exact .inr (.inl (of_decide_eq_true h))
    · exact .inr (.inr (.inl (of_decide_eq_true h)))
    · exact .inr (.inr (.inr (.inl (of_decide_eq_true h))))
    · exact .inr (.inr (.inr (.inr (of_decide_eq_true h))))
  exact ⟨h1, (now_w (now_t (by rcases h1 with h | h | h | h | h <;> rw [h] <;> decide))).2⟩

theorem value_w {S S' : St} {v : Val} (h : value S = .ok (S', v)) : rVal v.op v.y v.p v.a v.pr ∧ W S'.rest + WT (tkVal v.op v.y v.p v.a v.pr) ≤ W S.rest := by
  unfold value at h
  split at h
  · rename_i h0; cases h
    exact ⟨.inr (.inr (.inr (.inr (.inr (.inr ⟨rfl, rfl, rfl, rfl, rfl⟩))))), by rw [at_w h0 (by decide)]; show _ + WT [(0, kIn)] ≤ _; simp only [WT]; omega⟩
  · split at h
    · rename_i h0
      obtain ⟨S1, p, h1, h2⟩ := bnd_ok h
      obtain ⟨S2, l, h3, h4⟩ := bnd_ok h2
      cases h4
      have a0 := at_w h0 (by decide)
      have a1 := name_w h1
      have a2 := operands_w h3
      exact ⟨.inr (.inr (.inr (.inr (.inl ⟨rfl, rfl, a1.1, rfl, a2.1⟩)))), by show _ + WT ((0, kCall) :: (0, p) :: tkOps l) ≤ _; rw [WT_cons, WT_cons]; simp only; omega⟩
    · split at h
      · rename_i h0
        obtain ⟨l, o, pr, rfl, hpr, hl, hq, ho, hw⟩ := object_w h
        have a0 := at_w h0 (by decide)
        refine ⟨.inr (.inr (.inr (.inl ⟨rfl, rfl, rfl, hpr, l, o, rfl, hl, hq, ho⟩))), ?_⟩
        have e1 : (l ++ [o]).take pr.length = l := by rw [hl]; exact List.take_left
        have e2 : opd (l ++ [o]) pr.length = o := by rw [hl]; simp [opd]
        show _ + WT ((0, kNew) :: tkNew pr ((l ++ [o]).take pr.length) (opd (l ++ [o]) pr.length)) ≤ _
        rw [e1, e2, WT_cons]; simp only; omega
      · obtain ⟨S1, o, h1, h2⟩ := bnd_ok h
        have a1 := operand_w h1
        unfold value2 at h2
        split at h2
        · rename_i h3
          obtain ⟨S2, p, h4, h5⟩ := bnd_ok h2
          cases h5
          have a2 := at_w h3.2 (by decide)
          have a3 := name_w h4
          have e4 : (ch 46).size = 1 := rfl
          have ho : nm o.s = true ∧ tkOpd o = [(0, o.s)] := by
            obtain ⟨k, v, s⟩ := o
            have hk : k = 4 := h3.1
            subst hk
            rcases a1.1 with (ho | ho | ho) | ⟨hk, _⟩ | ⟨_, _, hs⟩
            · cases ho
            · cases ho
            · cases ho
            · simp at hk
            · exact ⟨hs, rfl⟩
          have a4 := a1.2
          rw [ho.2] at a4
          simp only [WT] at a4
          exact ⟨.inr (.inr (.inl ⟨rfl, ho.1, a3.1, rfl, rfl⟩)), by show _ + WT [(0, o.s), (2, ch 46), (0, p)] ≤ _; simp only [WT]; omega⟩
        · split at h2
          · rename_i h3
            obtain ⟨S2, l, h4, h5⟩ := bnd_ok h2
            cases h5
            have a3 := operands_w h4
            have ho : nm o.s = true ∧ tkOpd o = [(0, o.s)] := by
              obtain ⟨k, v, s⟩ := o
              have hk : k = 4 := h3.1
              subst hk
              rcases a1.1 with (ho | ho | ho) | ⟨hk, _⟩ | ⟨_, _, hs⟩
              · cases ho
              · cases ho
              · cases ho
              · simp at hk
              · exact ⟨hs, rfl⟩
            have a4 := a1.2
            rw [ho.2] at a4
            simp only [WT] at a4
            exact ⟨.inr (.inr (.inr (.inr (.inr (.inl ⟨rfl, ho.1, rfl, rfl, a3.1⟩))))), by show _ + WT ((0, o.s) :: tkOps l) ≤ _; rw [WT_cons]; simp only; omega⟩
          · split at h2
            · rename_i h3
              obtain ⟨S2, q, h4, h5⟩ := bnd_ok h2
              cases h5
              have a2 := arith_w h3
              have a3 := operand_w h4
              refine ⟨.inr (.inl ⟨rfl, rfl, a2.1, rfl, o, q, rfl, a1.1, a3.1⟩), ?_⟩
              show _ + WT (tkOpd o ++ (2, S1.now.t) :: tkOpd q) ≤ _
              rw [WT_app, WT_cons]; simp only; omega
            · cases h2
              exact ⟨.inl ⟨rfl, rfl, rfl, rfl, o, rfl, a1.1⟩, a1.2⟩

end M
end Go.Proofs.YtkpmpnebmkeocaaGreatDoor
end
section
namespace Go.Proofs.YtkpmpnebmkeocaaGreatDoor
namespace M

theorem adv_n (S : St) : S.adv.n = S.n := rfl
theorem take_n {S S' : St} {t : ByteArray} {u : Unit} (h : take S t = .ok (S', u)) : S'.n = S.n := by rw [(take_ok h).2]; rfl
theorem name_n {S S' : St} {s : ByteArray} (h : name S = .ok (S', s)) : S'.n = S.n := by rw [(name_ok h).2]; rfl
theorem operand_n {S S' : St} {o : Opd} (h : operand S = .ok (S', o)) : S'.n = S.n := by
  unfold operand at h
  split at h
  · cases h; rfl
  · split at h
    · cases h; rfl
    · split at h
      · cases h; rfl
      · split at h
        · obtain ⟨S1, n, h2, h3⟩ := bnd_ok h
          cases h3; exact (name_n h2).trans (adv_n S)
        · split at h
          · cases h; rfl
          · obtain ⟨S1, n, h2, h3⟩ := bnd_ok h
            cases h3; exact name_n h2
theorem more_n {β : Type} {item : St → β → Res β} (hi : ∀ S b S' b', item S b = .ok (S', b') → S'.n = S.n) : ∀ (k : Nat) {S S' : St} {b b' : β}, more item k S b = .ok (S', b') → S'.n = S.n
  | 0, S, S', b, b', h => by cases h; rfl
  | k + 1, S, S', b, b', h => by
    unfold more at h
    split at h
    · obtain ⟨S1, b1, h1, h2⟩ := bnd_ok h
      exact ((more_n hi k h2).trans (hi _ _ _ _ h1)).trans (adv_n S)
    · cases h; rfl
theorem list_n {β : Type} {item : St → β → Res β} (hi : ∀ S b S' b', item S b = .ok (S', b') → S'.n = S.n) {last : ByteArray} {S S' : St} {b b' : β} (h : list last item S b = .ok (S', b')) : S'.n = S.n := by
  unfold list at h
  split at h
  · cases h; rfl
  · obtain ⟨S1, b1, h1, h2⟩ := bnd_ok h
    obtain ⟨S2, b2, h3, h4⟩ := bnd_ok h2
    obtain ⟨S3, b3, h5, h6⟩ := bnd_ok h4
    cases h6
    exact ((take_n h5).trans (more_n hi _ h3)).trans (hi _ _ _ _ h1)
theorem oneOperand_n {S S' : St} {l : List Opd} (h : oneOperand S = .ok (S', l)) : S'.n = S.n := by
  obtain ⟨S1, o, h1, h2⟩ := bnd_ok h
  cases h2; exact operand_n h1
theorem operands_n {S S' : St} {l : List Opd} (h : operands S = .ok (S', l)) : S'.n = S.n := by
  obtain ⟨S1, o, h1, h2⟩ := bnd_ok h
  exact (list_n (fun S b S' b' h => by obtain ⟨S1, o, h1, h2⟩ := bnd_ok h; cases h2; exact operand_n h1) h2).trans (take_n h1)
theorem names_n {S S' : St} {l b : List ByteArray} (h : list (ch 41) itemName S b = .ok (S', l)) : S'.n = S.n :=
  list_n (fun S b S' b' h => by obtain ⟨S1, o, h1, h2⟩ := bnd_ok h; cases h2; exact name_n h1) h
theorem object_n {S S' : St} {v : Val} (h : object S = .ok (S', v)) : S'.n = S.n := by
  obtain ⟨S1, o, h1, h2⟩ := bnd_ok h
  obtain ⟨S2, o2, h3, h4⟩ := bnd_ok h2
  obtain ⟨S3, o3, h5, h6⟩ := bnd_ok h4
  obtain ⟨S4, o4, h7, h8⟩ := bnd_ok h6
  cases h8
  refine (((operand_n h7).trans (take_n h5)).trans (list_n (fun S b S' b' h => ?_) h3)).trans (take_n h1)
  obtain ⟨S1, o, h1, h2⟩ := bnd_ok h
  obtain ⟨S2, o2, h3, h4⟩ := bnd_ok h2
  obtain ⟨S3, o3, h5, h6⟩ := bnd_ok h4
  cases h6
  exact ((operand_n h5).trans (take_n h3)).trans (name_n h1)
theorem value_n {S S' : St} {v : Val} (h : value S = .ok (S', v)) : S'.n = S.n := by
  unfold value at h
  split at h
  · cases h; rfl
  · split at h
    · obtain ⟨S1, o, h1, h2⟩ := bnd_ok h
      obtain ⟨S2, o2, h3, h4⟩ := bnd_ok h2
      cases h4; exact ((operands_n h3).trans (name_n h1)).trans (adv_n S)
    · split at h
      · exact (object_n h).trans (adv_n S)
      · obtain ⟨S1, o, h1, h2⟩ := bnd_ok h
        have a1 := operand_n h1
        unfold value2 at h2
        split at h2
        · obtain ⟨S2, o, h3, h4⟩ := bnd_ok h2
          cases h4; exact (name_n h3).trans a1
        · split at h2
          · obtain ⟨S2, o, h3, h4⟩ := bnd_ok h2
            cases h4; exact (operands_n h3).trans a1
          · split at h2
            · obtain ⟨S2, o, h3, h4⟩ := bnd_ok h2
              cases h4; exact (operand_n h3).trans a1
            · cases h2; exact a1

theorem plain_w {S S' : St} {t : Tr} (h : plain S = .ok (S', t)) : ∃ op x y p a pr, t = one op x y p a pr .nil .nil ∧ rPlain op x y p a pr ∧ W S'.rest + WT (tkPlain op x y p a pr) ≤ W S.rest ∧ S'.n = S.n := by
  unfold plain at h
  split at h
  · rename_i h0
    obtain ⟨S1, l, h1, h2⟩ := bnd_ok h
    cases h2
    obtain ⟨o, rfl, ho, hw⟩ := oneOperand_w h1
    have a0 := at_w h0 (by decide)
    refine ⟨8, em, em, em, [o], [], rfl, .inr (.inr ⟨.inl rfl, rfl, rfl, rfl, rfl, o, rfl, ho⟩), ?_, (oneOperand_n h1).trans (adv_n S)⟩
    show _ + WT ((0, kOut) :: tkOpd o) ≤ _
    rw [WT_cons]; simp only; omega
  · split at h
    · rename_i h0
      obtain ⟨S1, l, h1, h2⟩ := bnd_ok h
      cases h2
      obtain ⟨o, rfl, ho, hw⟩ := oneOperand_w h1
      have a0 := at_w h0 (by decide)
      refine ⟨11, em, em, em, [o], [], rfl, .inr (.inr ⟨.inr rfl, rfl, rfl, rfl, rfl, o, rfl, ho⟩), ?_, (oneOperand_n h1).trans (adv_n S)⟩
      show _ + WT ((0, kReturn) :: tkOpd o) ≤ _
      rw [WT_cons]; simp only; omega
    · obtain ⟨S1, x, h1, h2⟩ := bnd_ok h
      have a1 := name_w h1
      have n1 := name_n h1
      split at h2
      · rename_i h0
        obtain ⟨S2, p, h3, h4⟩ := bnd_ok h2
        obtain ⟨S3, u, h5, h6⟩ := bnd_ok h4
        obtain ⟨S4, l, h7, h8⟩ := bnd_ok h6
        cases h8
        obtain ⟨o, rfl, ho, hw⟩ := oneOperand_w h7
        have a0 := at_w h0 (by decide)
        have a2 := name_w h3
        have a3 := take_w h5 (by decide)
        refine ⟨3, x, em, p, [o], [], rfl, .inr (.inl ⟨rfl, a1.1, rfl, a2.1, rfl, o, rfl, ho⟩), ?_, (((oneOperand_n h7).trans (take_n h5)).trans (name_n h3)).trans n1⟩
        show _ + WT ((0, x) :: (2, ch 46) :: (0, p) :: (2, ch 61) :: tkOpd o) ≤ _
        rw [WT_cons, WT_cons, WT_cons, WT_cons]; simp only; omega
      · obtain ⟨S2, u, h3, h4⟩ := bnd_ok h2
        obtain ⟨S3, v, h5, h6⟩ := bnd_ok h4
        cases h6
        have a2 := take_w h3 (by decide)
        have a3 := value_w h5
        refine ⟨v.op, x, v.y, v.p, v.a, v.pr, rfl, .inl ⟨a1.1, a3.1⟩, ?_, ((value_n h5).trans (take_n h3)).trans n1⟩
        obtain ⟨n3, n8, n11, _, _⟩ := rVal_op a3.1
        unfold tkPlain; rw [if_neg n3, if_neg n8, if_neg n11, WT_cons, WT_cons]; simp only; omega

theorem rTr_app : ∀ (a b : Tr) (k : Nat), rTr a k → rTr b k → rTr (a.app b) k
  | .nil, b, k, _, h => h
  | .cons _ _ _ _ _ _ _ _ nx, b, k, ⟨h1, h2⟩, h => ⟨h1, rTr_app nx b k h2 h⟩
theorem tkTr_app : ∀ (a b : Tr), tkTr (a.app b) = tkTr a ++ tkTr b
  | .nil, b => rfl
  | .cons _ _ _ _ _ _ _ _ nx, b => by simp only [Tr.app, tkTr, tkTr_app nx b, List.append_assoc]
theorem cnt_app : ∀ (a b : Tr), cnt (a.app b) = cnt a + cnt b
  | .nil, b => by simp [Tr.app, cnt]
  | .cons _ _ _ _ _ _ _ _ nx, b => by simp only [Tr.app, cnt, cnt_app nx b]; omega
theorem WT_blk (l : List TK) : WT (tkBlk l) = WT l + 4 := by
  have e1 : (ch 123).size = 1 := rfl
  have e2 : (ch 125).size = 1 := rfl
  unfold tkBlk
  rw [WT_cons, WT_app, WT_cons, WT_nil]; simp only; omega

structure BlkW (S S' : St) (t : Tr) : Prop where
  le : Le S S'
  d : S.d < 32
  r : rTr t (31 - S.d)
  w : W S'.rest + WT (tkBlk (tkTr t)) ≤ W S.rest
  n : S'.n = S.n + cnt t
structure StW (S S' : St) (t : Tr) : Prop where
  d : S'.d = S.d
  r : rTr t (32 - S.d)
  w : W S'.rest + WT (tkTr t) ≤ W S.rest
  n : S'.n = S.n + cnt t

theorem stmt_w {b : St → Res Tr} (hb : ∀ S S' t, S.d ≤ 32 → b S = .ok (S', t) → BlkW S S' t) {S S' : St} {t : Tr} (hd : S.d ≤ 32) (h : stmt b S = .ok (S', t)) : StW S S' t := by
  unfold stmt at h
  split at h
  · split at h
    · cases h
    · split at h
      · rename_i h0
        unfold branch at h
        obtain ⟨S1, l, h1, h2⟩ := bnd_ok h
        obtain ⟨S2, th, h3, h4⟩ := bnd_ok h2
        obtain ⟨o, rfl, ho, hw⟩ := oneOperand_w h1
        have a0 : W S.rest = kIf.size + 1 + W S.more.adv.rest := at_w h0 (by decide)
        have n1 : S1.n = S.n + 1 := oneOperand_n h1
        have d1 : S1.d = S.d := (oneOperand_le h1).d
        have B := hb _ _ _ (by omega) h3
        have Bd := B.d
        have Br := B.r
        have Bw := B.w
        have Bn := B.n
        have Bl := B.le.d
        have ek : 32 - S.d - 1 = 31 - S1.d := by omega
        split at h4
        · rename_i h5
          obtain ⟨S3, el, h6, h7⟩ := bnd_ok h4
          cases h7
          have a5 := at_w h5 (by decide)
          have d2 : S2.adv.d = S2.d := rfl
          have n2 : S2.adv.n = S2.n := rfl
          have C := hb _ _ _ (by omega) h6
          have Cr := C.r
          have Cw := C.w
          have Cn := C.n
          have Cl := C.le.d
          have ek2 : 32 - S.d - 1 = 31 - S2.adv.d := by omega
          refine ⟨by omega, ⟨.inr ⟨.inl rfl, rfl, rfl, rfl, rfl, ⟨o, rfl, ho⟩, by omega, by rw [ek]; exact Br, by rw [ek2]; exact Cr⟩, trivial⟩, ?_, ?_⟩
          · show _ + WT ((0, kIf) :: (tkOpd o ++ (tkBlk (tkTr th) ++ (if el.isNil = true then [] else (0, kElse) :: tkBlk (tkTr el)))) ++ []) ≤ _
            rw [List.append_nil, WT_cons, WT_app, WT_app]
            split
            · rw [WT_nil]; simp only; omega
            · rw [WT_cons]; simp only; omega
          · show _ = _ + (1 + cnt th + cnt el + 0); omega
        · cases h4
          refine ⟨by omega, ⟨.inr ⟨.inl rfl, rfl, rfl, rfl, rfl, ⟨o, rfl, ho⟩, by omega, by rw [ek]; exact Br, trivial⟩, trivial⟩, ?_, ?_⟩
          · show _ + WT ((0, kIf) :: (tkOpd o ++ (tkBlk (tkTr th) ++ [])) ++ []) ≤ _
            rw [List.append_nil, List.append_nil, WT_cons, WT_app]
            simp only; omega
          · show _ = _ + (1 + cnt th + 0 + 0); omega
      · split at h
        · rename_i h0
          unfold loopS at h
          obtain ⟨S1, l, h1, h2⟩ := bnd_ok h
          obtain ⟨S2, th, h3, h4⟩ := bnd_ok h2
          cases h4
          obtain ⟨o, rfl, ho, hw⟩ := oneOperand_w h1
          have a0 : W S.rest = kWhile.size + 1 + W S.more.adv.rest := at_w h0 (by decide)
          have n1 : S1.n = S.n + 1 := oneOperand_n h1
          have d1 : S1.d = S.d := (oneOperand_le h1).d
          have B := hb _ _ _ (by omega) h3
          have Bd := B.d
          have Br := B.r
          have Bw := B.w
          have Bn := B.n
          have Bl := B.le.d
          have ek : 32 - S.d - 1 = 31 - S1.d := by omega
          refine ⟨by omega, ⟨.inr ⟨.inr ⟨rfl, rfl⟩, rfl, rfl, rfl, rfl, ⟨o, rfl, ho⟩, by omega, by rw [ek]; exact Br, trivial⟩, trivial⟩, ?_, ?_⟩
          · show _ + WT ((0, kWhile) :: (tkOpd o ++ tkBlk (tkTr th)) ++ []) ≤ _
            rw [List.append_nil, WT_cons, WT_app]
            simp only; omega
          · show _ = _ + (1 + cnt th + 0 + 0); omega
        · obtain ⟨S1, t1, h1, h2⟩ := bnd_ok h
          obtain ⟨S2, u, h3, h4⟩ := bnd_ok h2
          cases h4
          obtain ⟨op, x, y, p, a, pr, rfl, hp, hw, hn⟩ := plain_w h1
          have a1 := take_w h3 (by decide)
          have a2 := take_n h3
          have a3 := (take_le h3).d
          have a4 : S1.d = S.d := (plain_both h1).1.d
          have a5 : S.more.n = S.n + 1 := rfl
          have a6 : W S.more.rest = W S.rest := rfl
          have e1 : (ch 59).size = 1 := rfl
          have no : op ≠ 9 ∧ op ≠ 10 := by
            rcases hp with ⟨_, hv⟩ | ⟨h, _⟩ | ⟨h, _⟩
            · exact ⟨(rVal_op hv).2.2.2.1, (rVal_op hv).2.2.2.2⟩
            · omega
            · omega
          refine ⟨by omega, ⟨.inl ⟨hp, rfl, rfl⟩, trivial⟩, ?_, ?_⟩
          · unfold one
            rw [tkTr, if_neg no.1, if_neg no.2, WT_app, WT_app, WT_cons, WT_nil]
            show _ + (_ + _ + 0) ≤ _
            simp only; omega
          · show _ = _ + (1 + 0 + 0 + 0); omega
  · cases h
theorem stmts_w {st : St → Res Tr} (hs : ∀ S S' t, S.d ≤ 32 → st S = .ok (S', t) → StW S S' t) : ∀ (k : Nat) {S S' : St} {acc t : Tr}, S.d ≤ 32 → stmts st k S acc = .ok (S', t) →
    ∃ t', t = acc.app t' ∧ rTr t' (32 - S.d) ∧ W S'.rest + WT (tkTr t') + 2 ≤ W S.rest ∧ S'.n = S.n + cnt t'
  | 0, S, S', acc, t, hd, h => by cases h
  | k + 1, S, S', acc, t, hd, h => by
    unfold stmts at h
    split at h
    · rename_i h0
      cases h
      have a0 := at_w h0 (by decide)
      have e1 : (ch 125).size = 1 := rfl
      exact ⟨.nil, (app_nil _).symm, trivial, by show _ + 0 + 2 ≤ _; omega, rfl⟩
    · obtain ⟨S1, t1, h1, h2⟩ := bnd_ok h
      have B := hs _ _ _ hd h1
      have Bd := B.d
      have Bw := B.w
      have Bn := B.n
      obtain ⟨t2, rfl, r2, w2, n2⟩ := stmts_w hs k (by omega) h2
      rw [Bd] at r2
      refine ⟨t1.app t2, app_assoc _ _ _, rTr_app _ _ _ B.r r2, ?_, ?_⟩
      · rw [tkTr_app, WT_app]; omega
      · rw [cnt_app]; omega
theorem blk_w : ∀ (N : Nat) {S S' : St} {t : Tr}, S.d ≤ 32 → blk N S = .ok (S', t) → BlkW S S' t
  | 0, S, S', t, hd, h => by cases h
  | N + 1, S, S', t, hd, h => by
    have hle := blk_le (N + 1) h
    unfold blk block at h
    split at h
    · cases h
    · rename_i h0
      obtain ⟨S1, u, h1, h2⟩ := bnd_ok h
      obtain ⟨S2, t2, h3, h4⟩ := bnd_ok h2
      cases h4
      have a0 := (take_ok h1).1
      have hlt : S.d < 32 := by
        rcases Nat.lt_or_ge S.d 32 with h | h
        · exact h
        · exact absurd ⟨a0, by omega⟩ h0
      have a1 := take_w h1 (by decide)
      have a2 := take_n h1
      have a3 : S1.down.d = S.d + 1 := by show S1.d + 1 = _; rw [(take_le h1).d]
      have e1 : (ch 123).size = 1 := rfl
      obtain ⟨t', e, r, w, n⟩ := stmts_w (fun S S' t hd h => stmt_w (fun S S' t hd h => blk_w N hd h) hd h) _ (by omega) h3
      have e : t = t' := e
      subst e
      rw [a3] at r
      have a4 : S1.down.n = S1.n := rfl
      have a5 : W S1.down.rest = W S1.rest := rfl
      have a6 : S2.up.n = S2.n := rfl
      have a7 : W S2.up.rest = W S2.rest := rfl
      refine ⟨hle, hlt, ?_, ?_, by omega⟩
      · have : 31 - S.d = 32 - (S.d + 1) := by omega
        rw [this]; exact r
      · rw [WT_blk]; omega

theorem WT_fn (f : Fn) : WT (tkFn f) = kFun.size + f.name.size + WT (tkSeq (fun s => [(0, s)]) f.ps) + WT (tkBlk (tkTr f.body)) + 6 := by
  have e1 : (ch 123).size = 1 := rfl
  have e2 : (ch 125).size = 1 := rfl
  have e3 : (ch 40).size = 1 := rfl
  have e4 : (ch 41).size = 1 := rfl
  rw [WT_blk]
  unfold tkFn tkFnA
  rw [WT_app, WT_cons, WT_cons, WT_cons, WT_app, WT_cons, WT_cons, WT_cons, WT_nil]
  simp only; omega
theorem function_w {N : Nat} {S S' : St} {f : Fn} (hd : S.d = 0) (h : function N S = .ok (S', f)) : rFn f ∧ W S'.rest + WT (tkFn f) ≤ W S.rest ∧ S'.n = S.n + cnt f.body ∧ S'.d = 0 ∧ (S.n ≤ 2000 → S'.n ≤ 2000) := by
  obtain ⟨S1, u1, h1, h2⟩ := bnd_ok h
  obtain ⟨S2, s, h3, h4⟩ := bnd_ok h2
  obtain ⟨S3, u3, h5, h6⟩ := bnd_ok h4
  obtain ⟨S4, ps, h7, h8⟩ := bnd_ok h6
  obtain ⟨S5, b, h9, h10⟩ := bnd_ok h8
  cases h10
  have l1 := ((take_le h1).trans (name_le h3)).trans (take_le h5)
  have l2 := l1.trans (list_le (fun _ _ _ _ h => itemName_le h) h7)
  have d4 : S4.d = 0 := l2.d.trans hd
  have B := blk_w N (by omega) h9
  have Bw := B.w
  have Bn := B.n
  have Br := B.r
  rw [d4] at Br
  have a1 := take_w h1 (by decide)
  have a2 := name_w h3
  have a3 := take_w h5 (by decide)
  have a4 := names_w h7
  have e3 : (ch 40).size = 1 := rfl
  have n1 := take_n h1
  have n2 := name_n h3
  have n3 := take_n h5
  have n4 := names_n h7
  refine ⟨⟨a2.1, a4.1, Br⟩, ?_, by show _ = _ + cnt b; omega, (l2.trans B.le).d.trans hd, (l2.trans B.le).lim⟩
  rw [WT_fn]; simp only; omega
theorem funcs_w {N : Nat} : ∀ (k : Nat) {S S' : St} {acc p : List Fn}, S.d = 0 → S.n ≤ 2000 → funcs N k S acc = .ok (S', p) → ∃ l, p = acc ++ l ∧ (∀ f ∈ l, rFn f) ∧ W S'.rest + WT (tkProg l) ≤ W S.rest ∧ S'.n = S.n + cntP l ∧ S'.n ≤ 2000
  | 0, S, S', acc, p, hd, hn, h => by cases h; exact ⟨[], (List.append_nil _).symm, (fun _ h => by cases h), Nat.le_refl _, rfl, hn⟩
  | k + 1, S, S', acc, p, hd, hn, h => by
    unfold funcs at h
    split at h
    · cases h; exact ⟨[], (List.append_nil _).symm, (fun _ h => by cases h), Nat.le_refl _, rfl, hn⟩
    · obtain ⟨S1, f, h1, h2⟩ := bnd_ok h
      obtain ⟨rf, wf, nf, df, lf⟩ := function_w hd h1
      obtain ⟨l, rfl, rl, wl, nl, ll⟩ := funcs_w k df (lf hn) h2
      refine ⟨f :: l, by simp, fun g hg => ?_, ?_, ?_, ll⟩
      · rcases List.mem_cons.1 hg with rfl | hg
        · exact rf
        · exact rl g hg
      · have e : tkProg (f :: l) = tkFn f ++ tkProg l := by simp [tkProg]
        rw [e, WT_app]; omega
      · show _ = _ + (cnt f.body + cntP l); omega
theorem read_w {l : List Tok} {fin : Int} {p : List Fn} (h : read l fin = .ok p) : rProg p ∧ WT (tkProg p) ≤ W l := by
  unfold read at h
  split at h
  · cases h
  · rename_i S q e
    cases h
    obtain ⟨l', e1, r, w, n, lim⟩ := funcs_w _ rfl (Nat.zero_le _) e
    have e1 : p = l' := e1
    subst e1
    have n : S.n = 0 + cntP p := n
    exact ⟨⟨r, by omega⟩, by show _ ≤ W (St.mk l fin 0 0).rest; omega⟩

theorem lexL_w : ∀ (f p : Nat) (l : List UInt8) (ts : List Tok), lexL f p l = .ok ts → W ts ≤ 2 * l.length
  | 0, p, l, ts, h => by simp only [lexL, Except.ok.injEq] at h; subst h; exact Nat.zero_le _
  | f + 1, p, [], ts, h => by simp only [lexL, Except.ok.injEq] at h; subst h; exact Nat.zero_le _
  | f + 1, p, c :: r, ts, h => by
    unfold lexL at h
    cases hn : nxt (c :: r) with
    | none => rw [hn] at h; cases h
    | some q =>
      obtain ⟨k, n⟩ := q
      have hb := nxt_bounds hn
      have hd : ((c :: r).drop n).length = (c :: r).length - n := List.length_drop
      rw [hn] at h
      cases k with
      | none =>
        simp only at h
        have := lexL_w f _ _ _ h
        omega
      | some k =>
        simp only at h
        cases hr : lexL f (p + n) ((c :: r).drop n) with
        | error e => rw [hr] at h; cases h
        | ok us =>
          rw [hr] at h
          simp only [Except.ok.injEq] at h
          subst h
          have h1 := lexL_w f _ _ _ hr
          have e : (ByteArray.mk ((c :: r).take n).toArray).size = n := by
            show ((c :: r).take n).toArray.size = n
            rw [List.size_toArray, List.length_take]; omega
          show (ByteArray.mk ((c :: r).take n).toArray).size + 1 + W us ≤ _
          rw [e]; omega
theorem txP_len : ∀ l : List (TK × UInt8), (txP l).length = WT (l.map (·.1))
  | [] => rfl
  | x :: l => by
    have e : txP (x :: l) = x.1.2.data.toList ++ (x.2 :: txP l) := by simp [txP]
    rw [e, List.map_cons, WT_cons, List.length_append, List.length_cons, txP_len l, Array.length_toList]
    show x.1.2.size + _ = _
    omega
theorem text_len (p : List Fn) : (text p).length = WT (tkProg p) := by
  unfold text; rw [txP_len, fnP_tk]
theorem parse_right {s : List UInt8} {p : List Fn} (h : parse s = .ok p) : rProg p ∧ (text p).length ≤ 2 * s.length := by
  unfold parse at h
  split at h
  · rename_i h0
    obtain ⟨r, w⟩ := read_w h
    refine ⟨r, ?_⟩
    rw [text_len]
    refine Nat.le_trans w ?_
    unfold lex
    split
    · exact Nat.zero_le _
    · cases hl : lexL s.length 0 s with
      | error e => exact Nat.zero_le _
      | ok ts => exact lexL_w _ _ _ _ hl
  · cases h
theorem may_iff {p : List Fn} : (rProg p ∧ (text p).length ≤ 65536) ↔ ((text p).length ≤ 65536 ∧ parse (text p) = .ok p) :=
  ⟨fun h => ⟨h.2, parse_text h.1 h.2⟩, fun h => ⟨(parse_right h.2).1, h.1⟩⟩

end M
end Go.Proofs.YtkpmpnebmkeocaaGreatDoor
end
