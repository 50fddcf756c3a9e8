/-
  Plain facts on the reader: what a beginning of the tokens is read as, beside what all of them are: the same, or it ends at the beginning's own end. Nothing of the program is named here. No conditions.
-/
import Derived.Test.YtkonkdhoakcmdaaDoorP5
set_option linter.unusedVariables false
namespace Go.Proofs.YtkonkdhoakcmdaaDoor
namespace M

/-- with what stands behind -/
def St.ex (post : List Tok) (S : St) : St := { S with rest := S.rest ++ post }
/-- r' is read of the beginning S, r of S with what stands behind -/
def Sy {α : Type} (post : List Tok) (S : St) (r' r : Res α) : Prop :=
  (∃ S1 a, r' = .ok (S1, a) ∧ S1.fin = S.fin ∧ S1.rest <:+ S.rest ∧ (S1.rest = [] ∨ r = .ok (S1.ex post, a))) ∨ r' = .error (20, S.fin) ∨ ∃ f, r' = .error f ∧ r = .error f ∧ f.2 ∈ S.rest.map (·.p)

variable {post : List Tok}
theorem ex_now {S : St} (h : S.rest ≠ []) : (S.ex post).now = S.now := by
  obtain ⟨rest, fin, n, d⟩ := S
  cases rest with
  | nil => exact absurd rfl h
  | cons t l => rfl
theorem ex_adv {S : St} (h : S.rest ≠ []) : (S.ex post).adv = S.adv.ex post := by
  obtain ⟨rest, fin, n, d⟩ := S
  cases rest with
  | nil => exact absurd rfl h
  | cons t l => rfl
theorem ex_at {S : St} (h : S.rest ≠ []) (t : ByteArray) : (S.ex post).at t = S.at t := by unfold St.at; rw [ex_now h]
theorem now_end {S : St} (h : S.rest = []) : S.now = ⟨-1, em, S.fin⟩ := by unfold St.now; rw [h]; rfl
theorem at_end {S : St} (h : S.rest = []) {t : ByteArray} (ht : em ≠ t) : ¬ S.at t = true := by unfold St.at; rw [now_end h]; simpa using ht
theorem now_mem {S : St} (h : S.rest ≠ []) : S.now.p ∈ S.rest.map (·.p) := by
  obtain ⟨rest, fin, n, d⟩ := S
  cases rest with
  | nil => exact absurd rfl h
  | cons t l =>
    have : (St.now ⟨t :: l, fin, n, d⟩).p = t.p := by
      show (if may1 t = true then t else (⟨-1, em, t.p⟩ : Tok)).p = t.p
      split <;> rfl
    rw [this]; simp
theorem adv_suf (S : St) : S.adv.rest <:+ S.rest := List.tail_suffix _

theorem Sy.ok {α : Type} (S : St) (a : α) : Sy post S (.ok (S, a)) (.ok (S.ex post, a)) := .inl ⟨S, a, rfl, rfl, List.suffix_refl _, .inr rfl⟩
theorem Sy.fail {α : Type} (S : St) (c : Int) (h : S.rest = [] → c = 20) : Sy (α := α) post S (M.fail S c) (M.fail (S.ex post) c) := by
  by_cases hr : S.rest = []
  · refine .inr (.inl ?_)
    unfold M.fail; rw [now_end hr, h hr]
  · refine .inr (.inr ⟨(c, S.now.p), rfl, ?_, now_mem hr⟩)
    unfold M.fail; rw [ex_now hr]
theorem Sy.up {α : Type} {S S1 : St} {r' r : Res α} (h : Sy post S1 r' r) (hf : S1.fin = S.fin) (hs : S1.rest <:+ S.rest) : Sy post S r' r := by
  rcases h with ⟨S2, a, e, f2, s2, k⟩ | h | ⟨f, e1, e2, hm⟩
  · exact .inl ⟨S2, a, e, f2.trans hf, s2.trans hs, k⟩
  · exact .inr (.inl (by rw [h, hf]))
  · exact .inr (.inr ⟨f, e1, e2, by
      obtain ⟨u, hu⟩ := hs
      rw [← hu, List.map_append]; exact List.mem_append_right _ hm⟩)
theorem Sy.free {α : Type} {S : St} {r' r r2 : Res α} (h : Sy post S r' r) (hr : S.rest = []) : Sy post S r' r2 := by
  rcases h with ⟨S2, a, e, f2, s2, k⟩ | h | ⟨f, e1, e2, hm⟩
  · rw [hr] at s2
    exact .inl ⟨S2, a, e, f2, by rw [hr]; exact s2, .inl (List.suffix_nil.1 s2)⟩
  · exact .inr (.inl h)
  · rw [hr] at hm; cases hm
theorem Sy.bnd {α β : Type} {S : St} {r' r : Res α} {f' f : St → α → Res β} (h : Sy post S r' r) (k : ∀ S1 a, S1.rest <:+ S.rest → Sy post S1 (f' S1 a) (f (S1.ex post) a)) : Sy post S (M.bnd r' f') (M.bnd r f) := by
  rcases h with ⟨S1, a, rfl, hf, hs, h | rfl⟩ | rfl | ⟨g, rfl, rfl, hm⟩
  · exact ((k S1 a hs).free h).up hf hs
  · exact (k S1 a hs).up hf hs
  · exact .inr (.inl rfl)
  · exact .inr (.inr ⟨g, rfl, rfl, hm⟩)
theorem Sy.ite {α : Type} {S : St} {c' c : Prop} [Decidable c'] [Decidable c] {a' a b' b : Res α} (h0 : S.rest = [] → ¬ c') (hc : S.rest ≠ [] → (c' ↔ c)) (h : S.rest ≠ [] → Sy post S a' a) (k : Sy post S b' b) :
    Sy post S (if c' then a' else b') (if c then a else b) := by
  by_cases hr : S.rest = []
  · rw [if_neg (h0 hr)]; exact k.free hr
  · by_cases hcc : c'
    · rw [if_pos hcc, if_pos ((hc hr).1 hcc)]; exact h hr
    · rw [if_neg hcc, if_neg fun e => hcc ((hc hr).2 e)]; exact k
theorem Sy.step {α : Type} {S : St} {f : St → Res α} (hr : S.rest ≠ []) (h : Sy post S.adv (f S.adv) (f (S.adv.ex post))) : Sy post S (f S.adv) (f (S.ex post).adv) := by
  rw [ex_adv hr]; exact h.up rfl (adv_suf S)
theorem Sy.at {α : Type} {S : St} {t : ByteArray} (ht : em ≠ t) {a' a b' b : Res α} (h : S.rest ≠ [] → Sy post S a' a) (k : Sy post S b' b) :
    Sy post S (if S.at t = true then a' else b') (if (S.ex post).at t = true then a else b) :=
  Sy.ite (fun hr => at_end hr ht) (fun hr => by rw [ex_at hr]) h k

theorem ex_isName {S : St} (h : S.rest ≠ []) : (S.ex post).isName = S.isName := by unfold St.isName; rw [ex_now h]
theorem isName_end {S : St} (h : S.rest = []) : ¬ S.isName = true := by unfold St.isName; rw [now_end h]; simp

theorem take_sy {t : ByteArray} (ht : em ≠ t) (S : St) : Sy post S (take S t) (take (S.ex post) t) :=
  Sy.at ht (fun hr => Sy.step (f := fun S => .ok (S, ())) hr (Sy.ok _ _)) (Sy.fail _ _ fun _ => rfl)
theorem name_sy (S : St) : Sy post S (name S) (name (S.ex post)) := by
  unfold name
  refine Sy.ite isName_end (fun hr => by rw [ex_isName hr]) (fun hr => ?_) (Sy.fail _ _ fun _ => rfl)
  rw [ex_now hr]; exact Sy.step (f := fun X => .ok (X, S.now.t)) hr (Sy.ok _ _)
theorem em_ch (c : UInt8) : em ≠ ch c := fun h => by have := congrArg ByteArray.size h; revert this; show ¬ (0 = 1); omega
theorem operand_sy (S : St) : Sy post S (operand S) (operand (S.ex post)) := by
  unfold operand
  refine Sy.at (by decide) (fun hr => Sy.step (f := fun X => .ok (X, _)) hr (Sy.ok _ _)) (Sy.at (by decide) (fun hr => Sy.step (f := fun X => .ok (X, _)) hr (Sy.ok _ _)) (Sy.at (by decide) (fun hr => Sy.step (f := fun X => .ok (X, _)) hr (Sy.ok _ _))
    (Sy.at (em_ch _) (fun hr => Sy.step (f := fun X => bnd (name X) fun S1 n => .ok (S1, (⟨3, 0, n⟩ : Opd))) hr (Sy.bnd (name_sy _) fun _ _ _ => Sy.ok _ _)) (Sy.ite (fun hr => ?_) (fun hr => by rw [ex_now hr]) (fun hr => ?_) (Sy.bnd (name_sy _) fun _ _ _ => Sy.ok _ _)))))
  · rw [now_end hr]; show ¬ ((-1 : Int) = 1); omega
  · rw [ex_now hr]; exact Sy.step (f := fun X => .ok (X, _)) hr (Sy.ok _ _)
/-- an item of a list -/
def ItemSy {β : Type} (post : List Tok) (item : St → β → Res β) : Prop := ∀ S b, Sy post S (item S b) (item (S.ex post) b)
theorem ex_len (S : St) : (S.ex post).rest.length = S.rest.length + post.length := by simp [St.ex]
theorem more_sy {β : Type} {item : St → β → Res β} (h : ItemSy post item) : ∀ k k' S b, S.rest.length ≤ k → (S.ex post).rest.length ≤ k' → Sy post S (more item k S b) (more item k' (S.ex post) b)
  | 0, k', S, b, hk, _ => .inl ⟨S, b, rfl, rfl, List.suffix_refl _, .inl (List.length_eq_zero_iff.1 (by omega))⟩
  | k + 1, 0, S, b, hk, hk' => by
    have hr : S.rest = [] := List.length_eq_zero_iff.1 (by rw [ex_len] at hk'; omega)
    refine Sy.free (r := .ok (S.ex post, b)) ?_ hr
    unfold more
    rw [if_neg (at_end hr (em_ch _))]
    exact Sy.ok _ _
  | k + 1, k' + 1, S, b, hk, hk' => by
    unfold more
    refine Sy.at (em_ch _) (fun hr => ?_) (Sy.ok _ _)
    rw [ex_adv hr]
    have hs := adv_short hr
    refine Sy.up (S1 := S.adv) (Sy.bnd (h S.adv b) fun S1 b1 hs1 => ?_) rfl (adv_suf S)
    have := hs1.length_le
    rw [ex_len] at hk'
    exact more_sy h k k' S1 b1 (by omega) (by rw [ex_len]; omega)
theorem list_sy {β : Type} {item : St → β → Res β} (h : ItemSy post item) {last : ByteArray} (hl : em ≠ last) (S : St) (b : β) : Sy post S (list last item S b) (list last item (S.ex post) b) := by
  unfold list
  refine Sy.at hl (fun hr => Sy.step (f := fun X => .ok (X, b)) hr (Sy.ok _ _)) (Sy.bnd (h S b) fun S1 b1 _ => Sy.bnd (more_sy h _ _ S1 b1 (Nat.le_refl _) (Nat.le_refl _)) fun S2 b2 _ => Sy.bnd (take_sy hl _) fun S3 _ _ => Sy.ok _ _)
theorem itemOp_sy : ItemSy post itemOp := fun S l => Sy.bnd (operand_sy _) fun _ _ _ => Sy.ok _ _
theorem itemName_sy : ItemSy post itemName := fun S l => Sy.bnd (name_sy _) fun _ _ _ => Sy.ok _ _
theorem itemProp_sy : ItemSy post itemProp := fun S l => Sy.bnd (name_sy _) fun _ _ _ => Sy.bnd (take_sy (em_ch _) _) fun _ _ _ => Sy.bnd (operand_sy _) fun _ _ _ => Sy.ok _ _
theorem operands_sy (S : St) : Sy post S (operands S) (operands (S.ex post)) := Sy.bnd (take_sy (em_ch _) _) fun _ _ _ => list_sy itemOp_sy (em_ch _) _ _
theorem oneOperand_sy (S : St) : Sy post S (oneOperand S) (oneOperand (S.ex post)) := Sy.bnd (operand_sy _) fun _ _ _ => Sy.ok _ _
theorem object_sy (S : St) : Sy post S (object S) (object (S.ex post)) :=
  Sy.bnd (take_sy (em_ch _) _) fun _ _ _ => Sy.bnd (list_sy itemProp_sy (em_ch _) _ _) fun _ _ _ => Sy.bnd (take_sy (by decide) _) fun _ _ _ => Sy.bnd (operand_sy _) fun _ _ _ => Sy.ok _ _
theorem ex_arith {S : St} (h : S.rest ≠ []) : (S.ex post).atArith = S.atArith := by unfold St.atArith; rw [ex_at h, ex_at h, ex_at h, ex_at h, ex_at h]
theorem at_end' {S : St} (h : S.rest = []) {t : ByteArray} (ht : em ≠ t) : S.at t = false := by simpa using at_end h ht
theorem arith_end {S : St} (h : S.rest = []) : ¬ S.atArith = true := by
  unfold St.atArith; rw [at_end' h (em_ch _), at_end' h (em_ch _), at_end' h (em_ch _), at_end' h (em_ch _), at_end' h (em_ch _)]; decide
theorem value2_sy (S : St) (a : Opd) : Sy post S (value2 S a) (value2 (S.ex post) a) := by
  unfold value2
  refine Sy.ite (fun hr h => at_end hr (em_ch _) h.2) (fun hr => by rw [ex_at hr]) (fun hr => Sy.step (f := fun X => bnd (name X) fun S1 n => .ok (S1, (⟨2, a.s, n, [], []⟩ : Val))) hr (Sy.bnd (name_sy _) fun _ _ _ => Sy.ok _ _))
    (Sy.ite (fun hr h => at_end hr (em_ch _) h.2) (fun hr => by rw [ex_at hr]) (fun hr => Sy.bnd (operands_sy _) fun _ _ _ => Sy.ok _ _)
      (Sy.ite arith_end (fun hr => by rw [ex_arith hr]) (fun hr => ?_) (Sy.ok _ _)))
  rw [ex_now hr]
  exact Sy.step (f := fun X => bnd (operand X) fun S1 b => .ok (S1, (⟨1, em, S.now.t, [a, b], []⟩ : Val))) hr (Sy.bnd (operand_sy _) fun _ _ _ => Sy.ok _ _)
theorem value_sy (S : St) : Sy post S (value S) (value (S.ex post)) :=
  Sy.at (by decide) (fun hr => Sy.step (f := fun X => .ok (X, _)) hr (Sy.ok _ _))
    (Sy.at (by decide) (fun hr => Sy.step (f := fun X => bnd (name X) fun S1 n => bnd (operands S1) fun S2 l => .ok (S2, (⟨5, em, n, l, []⟩ : Val))) hr (Sy.bnd (name_sy _) fun _ _ _ => Sy.bnd (operands_sy _) fun _ _ _ => Sy.ok _ _))
      (Sy.at (by decide) (fun hr => Sy.step (f := object) hr (object_sy _)) (Sy.bnd (operand_sy _) fun S1 a _ => value2_sy S1 a)))
theorem plain_sy (S : St) : Sy post S (plain S) (plain (S.ex post)) :=
  Sy.at (by decide) (fun hr => Sy.step (f := fun X => bnd (oneOperand X) fun S1 a => .ok (S1, one 8 em em em a [] .nil .nil)) hr (Sy.bnd (oneOperand_sy _) fun _ _ _ => Sy.ok _ _))
    (Sy.at (by decide) (fun hr => Sy.step (f := fun X => bnd (oneOperand X) fun S1 a => .ok (S1, one 11 em em em a [] .nil .nil)) hr (Sy.bnd (oneOperand_sy _) fun _ _ _ => Sy.ok _ _))
      (Sy.bnd (name_sy _) fun S1 x _ =>
        Sy.at (em_ch _) (fun hr => Sy.step (f := fun X => bnd (name X) fun S2 p => bnd (take S2 (ch 61)) fun S3 _ => bnd (oneOperand S3) fun S4 a => .ok (S4, one 3 x em p a [] .nil .nil)) hr (Sy.bnd (name_sy _) fun _ _ _ => Sy.bnd (take_sy (em_ch _) _) fun _ _ _ => Sy.bnd (oneOperand_sy _) fun _ _ _ => Sy.ok _ _))
          (Sy.bnd (take_sy (em_ch _) _) fun _ _ _ => Sy.bnd (value_sy _) fun _ _ _ => Sy.ok _ _)))

theorem Sy.bndE {α β : Type} {S : St} {r' r : Res α} {f' f : St → α → Res β} (h : Sy post S r' r) (k : ∀ S1 a, r' = .ok (S1, a) → S1.rest <:+ S.rest → Sy post S1 (f' S1 a) (f (S1.ex post) a)) : Sy post S (M.bnd r' f') (M.bnd r f) := by
  rcases h with ⟨S1, a, rfl, hf, hs, h | rfl⟩ | rfl | ⟨g, rfl, rfl, hm⟩
  · exact ((k S1 a rfl hs).free h).up hf hs
  · exact (k S1 a rfl hs).up hf hs
  · exact .inr (.inl rfl)
  · exact .inr (.inr ⟨g, rfl, rfl, hm⟩)
theorem Sy.step2 {α : Type} {S : St} {f' f : St → Res α} (hr : S.rest ≠ []) (h : Sy post S.adv (f' S.adv) (f (S.adv.ex post))) : Sy post S (f' S.adv) (f (S.ex post).adv) := by
  rw [ex_adv hr]; exact h.up rfl (adv_suf S)
/-- a block, where there is not too much to be read -/
def BlkSy (post : List Tok) (n : Nat) (b b' : St → Res Tr) : Prop := ∀ S, S.rest.length ≤ n → Sy post S (b S) (b' (S.ex post))
theorem branch_sy {n : Nat} {b b' : St → Res Tr} (h : BlkSy post n b b') : BlkSy post n (branch b) (branch b') := fun S hS =>
  Sy.bnd (oneOperand_sy S) fun S1 a h1 => Sy.bnd (h S1 (Nat.le_trans h1.length_le hS)) fun S2 th h2 =>
    Sy.at (by decide) (fun hr => Sy.step2 (f' := fun X => bnd (b X) fun S3 el => .ok (S3, one 9 em em em a [] th el)) (f := fun X => bnd (b' X) fun S3 el => .ok (S3, one 9 em em em a [] th el)) hr
      (Sy.bnd (h S2.adv (Nat.le_trans (adv_suf S2).length_le (Nat.le_trans h2.length_le (Nat.le_trans h1.length_le hS)))) fun _ _ _ => Sy.ok _ _)) (Sy.ok _ _)
theorem loopS_sy {n : Nat} {b b' : St → Res Tr} (h : BlkSy post n b b') : BlkSy post n (loopS b) (loopS b') := fun S hS =>
  Sy.bnd (oneOperand_sy S) fun S1 a h1 => Sy.bnd (h S1 (Nat.le_trans h1.length_le hS)) fun S2 th h2 => Sy.ok _ _
theorem ex_atStmt {S : St} (h : S.rest ≠ []) : (S.ex post).atStmt = S.atStmt := by unfold St.atStmt; rw [ex_isName h, ex_at h, ex_at h, ex_at h, ex_at h]
theorem atStmt_end {S : St} (h : S.rest = []) : ¬ S.atStmt = true := by
  unfold St.atStmt
  rw [at_end' h (by decide), at_end' h (by decide), at_end' h (by decide), at_end' h (by decide), show S.isName = false by simpa using isName_end h]; decide
theorem stmt_sy {n : Nat} {b b' : St → Res Tr} (h : BlkSy post n b b') : BlkSy post n (stmt b) (stmt b') := fun S hS => by
  unfold stmt
  refine Sy.ite atStmt_end (fun hr => by rw [ex_atStmt hr]) (fun hr => ?_) (Sy.fail _ _ fun _ => rfl)
  by_cases hn : S.n = 2000
  · rw [if_pos hn, if_pos (show (S.ex post).n = 2000 from hn)]
    exact Sy.fail _ _ fun e => absurd e hr
  · rw [if_neg hn, if_neg (show ¬ (S.ex post).n = 2000 from hn)]
    have hl : S.more.adv.rest.length ≤ n := Nat.le_trans (adv_suf S).length_le hS
    refine Sy.at (by decide) (fun hr => ?_) (Sy.at (by decide) (fun hr => ?_) ?_)
    · exact Sy.up (S1 := S.more) (Sy.step2 (S := S.more) (f' := branch b) (f := branch b') hr (branch_sy h _ hl)) rfl (List.suffix_refl _)
    · exact Sy.up (S1 := S.more) (Sy.step2 (S := S.more) (f' := loopS b) (f := loopS b') hr (loopS_sy h _ hl)) rfl (List.suffix_refl _)
    · exact Sy.up (S1 := S.more) (Sy.bnd (plain_sy S.more) fun S1 t _ => Sy.bnd (take_sy (em_ch _) _) fun _ _ _ => Sy.ok _ _) rfl (List.suffix_refl _)
theorem stmts_sy {n : Nat} {st st' : St → Res Tr} (h : BlkSy post n st st') (hlt : ∀ S S1 t, st S = .ok (S1, t) → S1.rest.length < S.rest.length) : ∀ k k' S acc, S.rest.length ≤ n → S.rest.length < k → (S.ex post).rest.length < k' → Sy post S (stmts st k S acc) (stmts st' k' (S.ex post) acc)
  | 0, _, S, _, _, hk, _ => absurd hk (by omega)
  | k + 1, 0, S, _, _, _, hk' => absurd hk' (by omega)
  | k + 1, k' + 1, S, acc, hS, hk, hk' => by
    unfold stmts
    refine Sy.at (em_ch _) (fun hr => Sy.step (f := fun X => .ok (X, acc)) hr (Sy.ok _ _)) (Sy.bndE (h S hS) fun S1 t e1 hs1 => ?_)
    have a := hlt S S1 t e1
    rw [ex_len] at hk'
    exact stmts_sy h hlt k k' S1 _ (by omega) (by omega) (by rw [ex_len]; omega)
theorem block_sy {n : Nat} {st st' : St → Res Tr} (h : BlkSy post n st st') (hlt : ∀ S S1 t, st S = .ok (S1, t) → S1.rest.length < S.rest.length) (S : St) (hS : S.rest.length ≤ n + 1) : Sy post S (block st S) (block st' (S.ex post)) := by
  unfold block
  refine Sy.ite (fun hr e => at_end hr (em_ch _) e.1) (fun hr => by rw [ex_at hr]; exact Iff.rfl) (fun hr => Sy.fail _ _ fun e => absurd e hr) (Sy.bndE (take_sy (em_ch _) S) fun S1 u e1 hs1 => ?_)
  have a := take_short e1 (Ne.symm (em_ch _))
  refine Sy.up (S1 := S1.down) (Sy.bnd (stmts_sy h hlt _ _ S1.down .nil (by show S1.rest.length ≤ n; omega) (Nat.lt_succ_self _) (Nat.lt_succ_self _)) fun S2 t _ => ?_) rfl (List.suffix_refl _)
  exact Sy.up (S1 := S2.up) (Sy.ok _ _) rfl (List.suffix_refl _)
theorem blk_sy : ∀ N N' S, S.rest.length < N → (S.ex post).rest.length < N' → Sy post S (blk N S) (blk N' (S.ex post))
  | 0, _, S, h, _ => absurd h (by omega)
  | N + 1, 0, S, _, h => absurd h (by omega)
  | N + 1, N' + 1, S, h1, h2 => by
    rw [ex_len] at h2
    cases hl : S.rest.length with
    | zero => exact block_sy (n := 0) (fun X hX => stmt_sy (n := 0) (fun Y hY => by
        by_cases hN : N = 0
        · subst hN
          refine Sy.free (r := fail (Y.ex post) 20) (Sy.fail _ _ fun _ => rfl) (List.length_eq_zero_iff.1 (by omega))
        · have hr : Y.rest = [] := List.length_eq_zero_iff.1 (by omega)
          exact (blk_sy N (post.length + 1) Y (by omega) (by rw [ex_len]; omega)).free hr) X hX) (fun _ _ _ e => (stmtN_lt e).rest) S (by omega)
    | succ m => exact block_sy (n := m) (stmt_sy fun Y hY => blk_sy N N' Y (by omega) (by rw [ex_len]; omega)) (fun _ _ _ e => (stmtN_lt e).rest) S (by omega)
theorem function_sy (N N' : Nat) (S : St) (h1 : S.rest.length < N) (h2 : (S.ex post).rest.length < N') : Sy post S (function N S) (function N' (S.ex post)) := by
  rw [ex_len] at h2
  exact Sy.bnd (take_sy (by decide) _) fun S1 _ a1 => Sy.bnd (name_sy _) fun S2 _ a2 => Sy.bnd (take_sy (em_ch _) _) fun S3 _ a3 => Sy.bnd (list_sy itemName_sy (em_ch _) _ _) fun S4 _ a4 =>
    Sy.bnd (blk_sy N N' S4 (by have := a1.length_le; have := a2.length_le; have := a3.length_le; have := a4.length_le; omega) (by rw [ex_len]; have := a1.length_le; have := a2.length_le; have := a3.length_le; have := a4.length_le; omega)) fun _ _ _ => Sy.ok _ _
theorem funcs_sy (N N' : Nat) : ∀ k k' S acc, S.rest.length < k → (S.ex post).rest.length < k' → S.rest.length < N → (S.ex post).rest.length < N' → Sy post S (funcs N k S acc) (funcs N' k' (S.ex post) acc)
  | 0, _, S, _, h, _, _, _ => absurd h (by omega)
  | k + 1, 0, S, _, _, h, _, _ => absurd h (by omega)
  | k + 1, k' + 1, S, acc, h1, h2, h3, h4 => by
    by_cases hr : S.rest = []
    · refine .inl ⟨S, acc, ?_, rfl, List.suffix_refl _, .inl hr⟩
      unfold funcs; rw [hr]; rfl
    · unfold funcs
      have e1 : ¬ S.rest.isEmpty = true := by simpa using hr
      have e2 : ¬ (S.ex post).rest.isEmpty = true := by simp [St.ex, hr]
      rw [if_neg e1, if_neg e2]
      refine Sy.bndE (function_sy N N' S h3 h4) fun S1 f e hs => ?_
      have a := function_short e
      rw [ex_len] at h2 h4
      exact funcs_sy N N' k k' S1 _ (by omega) (by rw [ex_len]; omega) (by omega) (by rw [ex_len]; omega)
/-- a beginning of tokens that are no program: a program, or it is too short; or the fault is in it -/
theorem read_pre {l : List Tok} {fin : Int} {f : Flt} (h : read l fin = .error f) (i : Nat) : (∃ p, read (l.take i) fin = .ok p) ∨ read (l.take i) fin = .error (20, fin) ∨ (read (l.take i) fin = .error f ∧ f.2 ∈ (l.take i).map (·.p)) := by
  have hx : St.ex (l.drop i) ⟨l.take i, fin, 0, 0⟩ = ⟨l, fin, 0, 0⟩ := by unfold St.ex; simp only [List.take_append_drop]
  have hs := funcs_sy (post := l.drop i) ((l.take i).length + 1) (l.length + 1) ((l.take i).length + 1) (l.length + 1) ⟨l.take i, fin, 0, 0⟩ [] (Nat.lt_succ_self _) (by rw [hx]; exact Nat.lt_succ_self _) (Nat.lt_succ_self _) (by rw [hx]; exact Nat.lt_succ_self _)
  rw [hx] at hs
  unfold read at h ⊢
  rcases hs with ⟨S1, a, e, _⟩ | e | ⟨g, e1, e2, hm⟩
  · rw [e]; exact .inl ⟨_, rfl⟩
  · rw [e]; exact .inr (.inl rfl)
  · rw [e2] at h
    simp only [Except.error.injEq] at h
    subst h
    rw [e1]; exact .inr (.inr ⟨rfl, hm⟩)
end M
end Go.Proofs.YtkonkdhoakcmdaaDoor
