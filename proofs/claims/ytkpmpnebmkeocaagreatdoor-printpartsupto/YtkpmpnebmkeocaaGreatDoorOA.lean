/-
  Plain facts on programs: the tokens of an operand, of a list; read from them, it is what it was. Nothing of the program is named here. No conditions.
-/
import Derived.Test.YtkpmpnebmkeocaaGreatDoorMA
import Derived.Test.YtkpmpnebmkeocaaGreatDoorMathF
set_option linter.unusedVariables false
section
namespace Go.Proofs.YtkpmpnebmkeocaaGreatDoor
namespace M

abbrev TK := Int × ByteArray
def sp (l : List Tok) : List TK := l.map fun x => (x.k, x.t)
def mayK (x : TK) : Bool := may1 ⟨x.1, x.2, 0⟩
theorem mayK_tok (t : Tok) : mayK (t.k, t.t) = may1 t := rfl

structure Is (S : St) (R : List TK) (n d : Nat) : Prop where
  rest : sp S.rest = R
  n : S.n = n
  d : S.d = d
def Rd {α : Type} (r : Res α) (R : List TK) (n d : Nat) (a : α) : Prop := ∃ S, r = .ok (S, a) ∧ Is S R n d
theorem Rd.ok {α : Type} {S : St} {R : List TK} {n d : Nat} {a : α} (h : Is S R n d) : Rd (.ok (S, a)) R n d a := ⟨S, rfl, h⟩
theorem Rd.bnd {α β : Type} {r : Res α} {f : St → α → Res β} {R R' : List TK} {n d n' d' : Nat} {a : α} {b : β} (h : Rd r R n d a)
    (k : ∀ S, Is S R n d → Rd (f S a) R' n' d' b) : Rd (bnd r f) R' n' d' b := by
  obtain ⟨S, rfl, h1⟩ := h
  exact k S h1
theorem Is.len {S : St} {R : List TK} {n d : Nat} (h : Is S R n d) : S.rest.length = R.length := by
  rw [← h.rest]; simp [sp]

theorem Is.now {S : St} {x : TK} {R : List TK} {n d : Nat} (h : Is S (x :: R) n d) (hx : mayK x = true) : S.now.k = x.1 ∧ S.now.t = x.2 := by
  obtain ⟨rest, fin, n0, d0⟩ := S
  have h1 := h.rest
  cases rest with
  | nil => simp [sp] at h1
  | cons t l =>
    simp only [sp, List.map_cons, List.cons.injEq] at h1
    have h2 : may1 t = true := by rw [← mayK_tok, h1.1]; exact hx
    have e : (St.mk (t :: l) fin n0 d0).now = t := by simp [St.now, now1, h2]
    rw [e, ← h1.1]; exact ⟨rfl, rfl⟩
theorem Is.adv {S : St} {x : TK} {R : List TK} {n d : Nat} (h : Is S (x :: R) n d) : Is S.adv R n d := by
  obtain ⟨rest, fin, n0, d0⟩ := S
  have h1 := h.rest
  cases rest with
  | nil => simp [sp] at h1
  | cons t l =>
    simp only [sp, List.map_cons, List.cons.injEq] at h1
    exact ⟨h1.2, h.n, h.d⟩
theorem Is.at {S : St} {x : TK} {R : List TK} {n d : Nat} (h : Is S (x :: R) n d) (hx : mayK x = true) (t : ByteArray) : S.at t = decide (x.2 = t) := by
  unfold St.at; rw [(h.now hx).2]
theorem Is.at_yes {S : St} {x : TK} {R : List TK} {n d : Nat} (h : Is S (x :: R) n d) (hx : mayK x = true) : S.at x.2 = true := by
  rw [h.at hx]; exact decide_eq_true rfl
theorem Is.at_no {S : St} {x : TK} {R : List TK} {n d : Nat} (h : Is S (x :: R) n d) (hx : mayK x = true) {t : ByteArray} (ht : x.2 ≠ t) : S.at t = false := by
  rw [h.at hx]; exact decide_eq_false ht
theorem take_rd {S : St} {x : TK} {R : List TK} {n d : Nat} (h : Is S (x :: R) n d) (hx : mayK x = true) : Rd (take S x.2) R n d () := by
  unfold take; rw [if_pos (h.at_yes hx)]; exact Rd.ok h.adv

def nm (s : ByteArray) : Bool := wordB s.data.toList && !kw s
theorem nm_may {s : ByteArray} (h : nm s = true) : mayK (0, s) = true := by
  simp only [nm, Bool.and_eq_true] at h
  simp [mayK, may1, h.1]
theorem nm_kw {s : ByteArray} (h : nm s = true) : kw s = false := by
  simp only [nm, Bool.and_eq_true] at h
  simpa using h.2
theorem nm_beg {s : ByteArray} (h : nm s = true) : begB s.data.toList 3 = true := by
  simp only [nm, wordB, Bool.and_eq_true] at h
  exact h.1.2.1
theorem beg_ne {a b : ByteArray} {i j : Int} (ha : begB a.data.toList i = true) (hb : begB b.data.toList j = true) (h : i ≠ j) : a ≠ b := by
  intro e
  subst e
  unfold begB at ha hb
  cases hl : a.data.toList.head? with
  | none => rw [hl] at ha; simp at ha
  | some c =>
    rw [hl] at ha hb
    simp only [Option.any_some, beq_iff_eq] at ha hb
    exact h (ha.symm.trans hb)
theorem kw_ne {s k : ByteArray} (h : kw s = false) (hk : kw k = true) : s ≠ k := by
  intro e; subst e; rw [hk] at h; cases h
theorem name_rd {S : St} {s : ByteArray} {R : List TK} {n d : Nat} (h : Is S ((0, s) :: R) n d) (hs : nm s = true) : Rd (name S) R n d s := by
  have h1 := h.now (nm_may hs)
  have e : S.isName = true := by unfold St.isName; rw [h1.1, h1.2, nm_kw hs]; rfl
  unfold name
  rw [if_pos e, h1.2]
  exact Rd.ok h.adv
theorem nm_sgn {s : ByteArray} (h : nm s = true) (c : UInt8) (hc : begB (ch c).data.toList 5 = true) : s ≠ ch c := beg_ne (nm_beg h) hc (by decide)

def dig (n : Nat) : List UInt8 := if h : n < 10 then [UInt8.ofNat (48 + n)] else dig (n / 10) ++ [UInt8.ofNat (48 + n % 10)]
theorem dig_toNat (n : Nat) (h : n < 10) : (UInt8.ofNat (48 + n)).toNat = 48 + n := by
  simp; omega
theorem numV_snoc (l : List UInt8) (c : UInt8) : numV (l ++ [c]) = 10 * numV l + ((c.toNat : Int) - 48) := by
  simp [numV, List.foldl_append]
theorem numV_dig (n : Nat) : numV (dig n) = n := by
  induction n using Nat.strongRecOn with
  | _ n ih =>
    rw [dig]
    split
    · rename_i h
      have e : numV [UInt8.ofNat (48 + n)] = 10 * 0 + (((UInt8.ofNat (48 + n)).toNat : Int) - 48) := rfl
      rw [e, dig_toNat n h]; omega
    · rename_i h
      rw [numV_snoc, ih (n / 10) (by omega), dig_toNat (n % 10) (Nat.mod_lt _ (by decide))]
      omega
theorem dig_len : ∀ (k n : Nat), n < 10 ^ (k + 1) → (dig n).length ≤ k + 1
  | 0, n, h => by
    rw [dig, dif_pos (by simpa using h)]; simp
  | k + 1, n, h => by
    rw [dig]
    split
    · simp
    · have := dig_len k (n / 10) (by rw [Nat.div_lt_iff_lt_mul (by decide)]; rw [Nat.pow_succ] at h; exact h)
      simp only [List.length_append, List.length_singleton]; omega
theorem dig_ne (n : Nat) : dig n ≠ [] := by
  rw [dig]; split <;> simp
theorem dig_cls (n : Nat) : ∀ c ∈ dig n, pDig c = true := by
  induction n using Nat.strongRecOn with
  | _ n ih =>
    have one : ∀ m, m < 10 → pDig (UInt8.ofNat (48 + m)) = true := by decide
    rw [dig]
    split
    · rename_i h
      intro c hc
      simp only [List.mem_singleton] at hc
      subst hc; exact one n h
    · rename_i h
      intro c hc
      simp only [List.mem_append, List.mem_singleton] at hc
      rcases hc with hc | hc
      · exact ih (n / 10) (by omega) c hc
      · subst hc; exact one _ (Nat.mod_lt _ (by decide))
def digT (n : Int) : ByteArray := ⟨(dig n.toNat).toArray⟩
theorem digT_list (n : Int) : (digT n).data.toList = dig n.toNat := by simp [digT]
theorem tw_all {p : UInt8 → Bool} {l : List UInt8} (h : ∀ c ∈ l, p c = true) : ext p l 0 = l.length := by
  unfold ext
  rw [List.drop_zero]
  have : l.takeWhile p = l := by
    induction l with
    | nil => rfl
    | cons a r ih => rw [List.takeWhile_cons_of_pos (h a (List.mem_cons_self ..)), ih fun c hc => h c (List.mem_cons_of_mem _ hc)]
  rw [this]; omega
theorem digT_may {n : Int} (h1 : n ≤ 999999999) : mayK (1, digT n) = true := by
  have hl : (dig n.toNat).length ≤ 9 := dig_len 8 n.toNat (by simp; omega)
  have hn : (dig n.toNat).isEmpty = false := by cases h : dig n.toNat with | nil => exact absurd h (dig_ne _) | cons a r => rfl
  simp only [mayK, may1, digT_list, numB]
  rw [hn, tw_all (dig_cls _)]
  simp [hl]
theorem digT_beg (n : Int) : begB (digT n).data.toList 4 = true := by
  rw [digT_list]
  cases h : dig n.toNat with
  | nil => exact absurd h (dig_ne _)
  | cons a r =>
    have := dig_cls n.toNat a (by rw [h]; exact List.mem_cons_self ..)
    simpa [begB, pDig] using this

def rOpd (o : Opd) : Prop :=
  (o = ⟨0, 0, em⟩ ∨ o = ⟨1, 1, em⟩ ∨ o = ⟨1, 0, em⟩) ∨ (o.k = 2 ∧ 0 ≤ o.n ∧ o.n ≤ 999999999 ∧ o.s = em) ∨ ((o.k = 3 ∨ o.k = 4) ∧ o.n = 0 ∧ nm o.s = true)
def tkOpd (o : Opd) : List TK :=
  if o.k = 0 then [(0, kNull)]
  else if o.k = 1 then [(0, if o.n = 1 then kTrue else kFalse)]
  else if o.k = 2 then [(1, digT o.n)]
  else if o.k = 3 then [(2, ch 38), (0, o.s)]
  else [(0, o.s)]

theorem operand_rd {S : St} {o : Opd} {R : List TK} {n d : Nat} (ho : rOpd o) (h : Is S (tkOpd o ++ R) n d) : Rd (operand S) R n d o := by
  obtain ⟨k, v, s⟩ := o
  unfold operand
  rcases ho with (ho | ho | ho) | ⟨hk, h0, h1, hs⟩ | ⟨hk, h0, hs⟩
  · cases ho
    have m : mayK (0, kNull) = true := by decide
    rw [if_pos (h.at_yes m)]
    exact Rd.ok h.adv
  · cases ho
    have m : mayK (0, kTrue) = true := by decide
    have h : Is S ((0, kTrue) :: R) n d := h
    rw [h.at_no m (t := kNull) (by decide), if_neg (by decide), if_pos (h.at_yes m)]
    exact Rd.ok h.adv
  · cases ho
    have m : mayK (0, kFalse) = true := by decide
    have h : Is S ((0, kFalse) :: R) n d := h
    rw [h.at_no m (t := kNull) (by decide), if_neg (by decide), h.at_no m (t := kTrue) (by decide), if_neg (by decide), if_pos (h.at_yes m)]
    exact Rd.ok h.adv
  · simp only at hk h0 h1 hs
    subst hk hs
    have m : mayK (1, digT v) = true := digT_may h1
    have h : Is S ((1, digT v) :: R) n d := h
    have b := digT_beg v
    rw [h.at_no m (t := kNull) (beg_ne b (j := 3) (by decide) (by decide)), if_neg (by decide), h.at_no m (t := kTrue) (beg_ne b (j := 3) (by decide) (by decide)), if_neg (by decide),
      h.at_no m (t := kFalse) (beg_ne b (j := 3) (by decide) (by decide)), if_neg (by decide), h.at_no m (t := ch 38) (beg_ne b (j := 5) (by decide) (by decide)), if_neg (by decide),
      if_pos (h.now m).1, (h.now m).2]
    have e : numV (digT v).data.toList = v := by rw [digT_list, numV_dig]; omega
    simp only [e]
    exact Rd.ok h.adv
  · simp only at hk h0 hs
    subst h0
    rcases hk with hk | hk
    · subst hk
      have m : mayK (2, ch 38) = true := by decide
      have h : Is S ((2, ch 38) :: (0, s) :: R) n d := h
      rw [h.at_no m (t := kNull) (by decide), if_neg (by decide), h.at_no m (t := kTrue) (by decide), if_neg (by decide), h.at_no m (t := kFalse) (by decide), if_neg (by decide), if_pos (h.at_yes m)]
      exact (name_rd h.adv hs).bnd fun S1 h1 => Rd.ok h1
    · subst hk
      have m := nm_may hs
      have h : Is S ((0, s) :: R) n d := h
      have hw := nm_kw hs
      rw [h.at_no m (t := kNull) (kw_ne hw (by decide)), if_neg (by decide), h.at_no m (t := kTrue) (kw_ne hw (by decide)), if_neg (by decide),
        h.at_no m (t := kFalse) (kw_ne hw (by decide)), if_neg (by decide), h.at_no m (t := ch 38) (nm_sgn hs _ (by decide)), if_neg (by decide),
        if_neg (by rw [(h.now m).1]; simp)]
      exact (name_rd h hs).bnd fun S1 h1 => Rd.ok h1

theorem tkOpd_head {o : Opd} (ho : rOpd o) : ∃ x r, tkOpd o = x :: r ∧ mayK x = true ∧ ∀ c, begB (ch c).data.toList 5 = true → c ≠ 38 → x.2 ≠ ch c := by
  obtain ⟨k, v, s⟩ := o
  rcases ho with (ho | ho | ho) | ⟨hk, h0, h1, hs⟩ | ⟨hk, h0, hs⟩
  · cases ho
    exact ⟨_, _, rfl, by decide, fun c hc _ => beg_ne (i := 3) (by decide) hc (by decide)⟩
  · cases ho
    exact ⟨_, _, rfl, by decide, fun c hc _ => beg_ne (i := 3) (by decide) hc (by decide)⟩
  · cases ho
    exact ⟨_, _, rfl, by decide, fun c hc _ => beg_ne (i := 3) (by decide) hc (by decide)⟩
  · simp only at hk
    subst hk
    exact ⟨_, _, rfl, digT_may h1, fun c hc _ => beg_ne (digT_beg v) hc (by decide)⟩
  · simp only at hk
    rcases hk with hk | hk
    · subst hk
      refine ⟨_, _, rfl, by decide, fun c hc h38 e => h38 ?_⟩
      have := congrArg (fun b : ByteArray => b.data.toList) e
      simp only [ch, List.cons.injEq] at this
      exact this.1.symm
    · subst hk
      exact ⟨_, _, rfl, nm_may hs, fun c hc _ => nm_sgn hs c hc⟩

def tkMore {α : Type} (tk : α → List TK) (l : List α) : List TK := l.flatMap fun o => (2, ch 44) :: tk o
def tkSeq {α : Type} (tk : α → List TK) : List α → List TK
  | [] => []
  | o :: l => tk o ++ tkMore tk l
theorem tkMore_len {α : Type} (tk : α → List TK) (l : List α) : l.length ≤ (tkMore tk l).length := by
  induction l with
  | nil => simp [tkMore]
  | cons a r ih => simp only [tkMore, List.flatMap_cons, List.length_append, List.length_cons] at ih ⊢; omega

theorem more_rd {α β : Type} {item : St → β → Res β} {tk : α → List TK} {P : α → Prop} {add : β → α → β}
    (hi : ∀ S b o R n d, P o → Is S (tk o ++ R) n d → Rd (item S b) R n d (add b o)) (last : TK) (hl : mayK last = true) (hc : last.2 ≠ ch 44) :
    ∀ (l : List α) (k : Nat) (S : St) (b : β) (R : List TK) (n d : Nat), (∀ o ∈ l, P o) → l.length ≤ k → Is S (tkMore tk l ++ last :: R) n d → Rd (more item k S b) (last :: R) n d (l.foldl add b)
  | [], k, S, b, R, n, d, hp, hk, h => by
    have h : Is S (last :: R) n d := h
    cases k with
    | zero => exact Rd.ok h
    | succ k =>
      unfold more
      rw [h.at_no hl hc, if_neg (by decide)]
      exact Rd.ok h
  | o :: l, k, S, b, R, n, d, hp, hk, h => by
    cases k with
    | zero => simp at hk
    | succ k =>
      have h : Is S ((2, ch 44) :: (tk o ++ (tkMore tk l ++ last :: R))) n d := by
        simpa [tkMore, List.flatMap_cons] using h
      unfold more
      rw [if_pos (h.at_yes (by decide))]
      exact (hi _ _ _ _ _ _ (hp o (List.mem_cons_self ..)) h.adv).bnd fun S1 h1 =>
        more_rd hi last hl hc l k S1 _ R n d (fun o ho => hp o (List.mem_cons_of_mem _ ho)) (by simpa using hk) h1
theorem list_rd {α β : Type} {item : St → β → Res β} {tk : α → List TK} {P : α → Prop} {add : β → α → β}
    (hi : ∀ S b o R n d, P o → Is S (tk o ++ R) n d → Rd (item S b) R n d (add b o)) (last : TK) (hl : mayK last = true) (hc : last.2 ≠ ch 44)
    (hf : ∀ o, P o → ∃ x r, tk o = x :: r ∧ mayK x = true ∧ x.2 ≠ last.2)
    {l : List α} {S : St} {b : β} {R : List TK} {n d : Nat} (hp : ∀ o ∈ l, P o) (h : Is S (tkSeq tk l ++ last :: R) n d) : Rd (list last.2 item S b) R n d (l.foldl add b) := by
  unfold list
  cases l with
  | nil =>
    have h : Is S (last :: R) n d := h
    rw [if_pos (h.at_yes hl)]
    exact Rd.ok h.adv
  | cons o l =>
    have h : Is S (tk o ++ (tkMore tk l ++ last :: R)) n d := by simpa [tkSeq] using h
    obtain ⟨x, r, e, mx, nx⟩ := hf o (hp o (List.mem_cons_self ..))
    have h' : Is S (x :: (r ++ (tkMore tk l ++ last :: R))) n d := by rw [e] at h; exact h
    rw [h'.at_no mx nx, if_neg (by decide)]
    refine (hi _ _ _ _ _ _ (hp o (List.mem_cons_self ..)) h).bnd fun S1 h1 => ?_
    refine (more_rd hi last hl hc l _ S1 _ R n d (fun o ho => hp o (List.mem_cons_of_mem _ ho)) ?_ h1).bnd fun S2 h2 => ?_
    · rw [h1.len, List.length_append]; have := tkMore_len tk l; omega
    · exact (take_rd h2 hl).bnd fun S3 h3 => Rd.ok h3

end M
end Go.Proofs.YtkpmpnebmkeocaaGreatDoor
end
section
namespace Go.Proofs.YtkpmpnebmkeocaaGreatDoor
namespace M

def tkOps (l : List Opd) : List TK := (2, ch 40) :: (tkSeq tkOpd l ++ [(2, ch 41)])
theorem foldl_snoc {α : Type} (l b : List α) : l.foldl (fun b o => b ++ [o]) b = b ++ l := by
  induction l generalizing b with
  | nil => simp
  | cons a r ih => simp only [List.foldl_cons]; rw [ih]; simp
theorem itemOp_rd (S : St) (b : List Opd) (o : Opd) (R : List TK) (n d : Nat) (ho : rOpd o) (h : Is S (tkOpd o ++ R) n d) : Rd (itemOp S b) R n d (b ++ [o]) :=
  (operand_rd ho h).bnd fun S1 h1 => Rd.ok h1
theorem itemName_rd (S : St) (b : List ByteArray) (o : ByteArray) (R : List TK) (n d : Nat) (ho : nm o = true) (h : Is S ([(0, o)] ++ R) n d) : Rd (itemName S b) R n d (b ++ [o]) :=
  (name_rd h ho).bnd fun S1 h1 => Rd.ok h1
def tkProp (q : ByteArray × Opd) : List TK := (0, q.1) :: (2, ch 58) :: tkOpd q.2
theorem itemProp_rd (S : St) (b : List ByteArray × List Opd) (o : ByteArray × Opd) (R : List TK) (n d : Nat) (ho : nm o.1 = true ∧ rOpd o.2) (h : Is S (tkProp o ++ R) n d) :
    Rd (itemProp S b) R n d (b.1 ++ [o.1], b.2 ++ [o.2]) := by
  have h : Is S ((0, o.1) :: (2, ch 58) :: (tkOpd o.2 ++ R)) n d := h
  refine (name_rd h ho.1).bnd fun S1 h1 => ?_
  refine (take_rd h1 (by decide)).bnd fun S2 h2 => ?_
  exact (operand_rd ho.2 h2).bnd fun S3 h3 => Rd.ok h3
theorem foldl_prop (l : List (ByteArray × Opd)) (b : List ByteArray × List Opd) :
    l.foldl (fun b o => (b.1 ++ [o.1], b.2 ++ [o.2])) b = (b.1 ++ l.map (·.1), b.2 ++ l.map (·.2)) := by
  induction l generalizing b with
  | nil => simp
  | cons a r ih => simp only [List.foldl_cons]; rw [ih]; simp

theorem operands_rd {S : St} {l : List Opd} {R : List TK} {n d : Nat} (hl : ∀ o ∈ l, rOpd o) (h : Is S (tkOps l ++ R) n d) : Rd (operands S) R n d l := by
  have h : Is S ((2, ch 40) :: (tkSeq tkOpd l ++ (2, ch 41) :: R)) n d := by simpa [tkOps] using h
  refine (take_rd h (by decide)).bnd fun S1 h1 => ?_
  have := list_rd (b := []) itemOp_rd (2, ch 41) (by decide) (by decide)
    (fun o ho => by obtain ⟨x, r, e, m, c⟩ := tkOpd_head ho; exact ⟨x, r, e, m, c 41 (by decide) (by decide)⟩) hl h1
  rw [foldl_snoc, List.nil_append] at this
  exact this
theorem names_rd {S : St} {l : List ByteArray} {R : List TK} {n d : Nat} (hl : ∀ o ∈ l, nm o = true) (h : Is S (tkSeq (fun s => [(0, s)]) l ++ (2, ch 41) :: R) n d) :
    Rd (list (ch 41) itemName S []) R n d l := by
  have := list_rd (b := []) itemName_rd (2, ch 41) (by decide) (by decide)
    (fun o ho => ⟨_, _, rfl, nm_may ho, nm_sgn ho 41 (by decide)⟩) hl h
  rw [foldl_snoc, List.nil_append] at this
  exact this
theorem one_rd {S : St} {o : Opd} {R : List TK} {n d : Nat} (ho : rOpd o) (h : Is S (tkOpd o ++ R) n d) : Rd (oneOperand S) R n d [o] :=
  (operand_rd ho h).bnd fun S1 h1 => Rd.ok h1

def tkNew (pr : List ByteArray) (a : List Opd) (o : Opd) : List TK := (2, ch 123) :: (tkSeq tkProp (pr.zip a) ++ (2, ch 125) :: (0, kProto) :: tkOpd o)
theorem object_rd {S : St} {pr : List ByteArray} {a : List Opd} {o : Opd} {R : List TK} {n d : Nat} (hpr : ∀ s ∈ pr, nm s = true) (ha : ∀ o ∈ a, rOpd o) (hl : pr.length = a.length) (ho : rOpd o)
    (h : Is S (tkNew pr a o ++ R) n d) : Rd (object S) R n d ⟨4, em, em, a ++ [o], pr⟩ := by
  have h : Is S ((2, ch 123) :: (tkSeq tkProp (pr.zip a) ++ (2, ch 125) :: (0, kProto) :: (tkOpd o ++ R))) n d := by simpa [tkNew] using h
  refine (take_rd h (by decide)).bnd fun S1 h1 => ?_
  have := list_rd (b := ([], [])) itemProp_rd (2, ch 125) (by decide) (by decide)
    (fun o ho => ⟨_, _, rfl, nm_may ho.1, nm_sgn ho.1 125 (by decide)⟩)
    (fun q hq => ⟨hpr _ (List.of_mem_zip hq).1, ha _ (List.of_mem_zip hq).2⟩) h1
  rw [foldl_prop, List.nil_append, List.nil_append, List.map_fst_zip (by omega), List.map_snd_zip (by omega)] at this
  refine this.bnd fun S2 h2 => ?_
  refine (take_rd h2 (by decide)).bnd fun S3 h3 => ?_
  exact (operand_rd ho h3).bnd fun S4 h4 => Rd.ok h4

def arS (p : ByteArray) : Prop := p = ch 43 ∨ p = ch 45 ∨ p = ch 42 ∨ p = ch 60 ∨ p = ch 61
theorem arS_may {p : ByteArray} (h : arS p) : mayK (2, p) = true := by
  rcases h with h | h | h | h | h <;> subst h <;> decide
def rVal (op : Int) (y p : ByteArray) (a : List Opd) (pr : List ByteArray) : Prop :=
  (op = 0 ∧ y = em ∧ p = em ∧ pr = [] ∧ ∃ o, a = [o] ∧ rOpd o) ∨
  (op = 1 ∧ y = em ∧ arS p ∧ pr = [] ∧ ∃ o q, a = [o, q] ∧ rOpd o ∧ rOpd q) ∨
  (op = 2 ∧ nm y = true ∧ nm p = true ∧ pr = [] ∧ a = []) ∨
  (op = 4 ∧ y = em ∧ p = em ∧ (∀ s ∈ pr, nm s = true) ∧ ∃ l o, a = l ++ [o] ∧ pr.length = l.length ∧ (∀ q ∈ l, rOpd q) ∧ rOpd o) ∨
  (op = 5 ∧ y = em ∧ nm p = true ∧ pr = [] ∧ ∀ q ∈ a, rOpd q) ∨
  (op = 6 ∧ nm y = true ∧ p = em ∧ pr = [] ∧ ∀ q ∈ a, rOpd q) ∨
  (op = 7 ∧ y = em ∧ p = em ∧ pr = [] ∧ a = [])
def opd (a : List Opd) (i : Nat) : Opd := a.getD i ⟨0, 0, em⟩
def tkVal (op : Int) (y p : ByteArray) (a : List Opd) (pr : List ByteArray) : List TK :=
  if op = 0 then tkOpd (opd a 0)
  else if op = 1 then tkOpd (opd a 0) ++ (2, p) :: tkOpd (opd a 1)
  else if op = 2 then [(0, y), (2, ch 46), (0, p)]
  else if op = 4 then (0, kNew) :: tkNew pr (a.take pr.length) (opd a pr.length)
  else if op = 5 then (0, kCall) :: (0, p) :: tkOps a
  else if op = 6 then (0, y) :: tkOps a
  else [(0, kIn)]

theorem tkOpd_kw {o : Opd} (ho : rOpd o) : ∃ x r, tkOpd o = x :: r ∧ mayK x = true ∧ x.2 ≠ kIn ∧ x.2 ≠ kCall ∧ x.2 ≠ kNew := by
  obtain ⟨k, v, s⟩ := o
  rcases ho with (ho | ho | ho) | ⟨hk, h0, h1, hs⟩ | ⟨hk, h0, hs⟩
  · cases ho
    exact ⟨_, _, rfl, by decide, by decide, by decide, by decide⟩
  · cases ho
    exact ⟨_, _, rfl, by decide, by decide, by decide, by decide⟩
  · cases ho
    exact ⟨_, _, rfl, by decide, by decide, by decide, by decide⟩
  · simp only at hk
    subst hk
    have b := digT_beg v
    exact ⟨_, _, rfl, digT_may h1, beg_ne b (j := 3) (by decide) (by decide), beg_ne b (j := 3) (by decide) (by decide), beg_ne b (j := 3) (by decide) (by decide)⟩
  · simp only at hk
    rcases hk with hk | hk
    · subst hk
      exact ⟨_, _, rfl, by decide, by decide, by decide, by decide⟩
    · subst hk
      have hw := nm_kw hs
      exact ⟨_, _, rfl, nm_may hs, kw_ne hw (by decide), kw_ne hw (by decide), kw_ne hw (by decide)⟩

theorem value_opd {S : St} {o : Opd} {R R' : List TK} {n d n' d' : Nat} {v : Val} (ho : rOpd o) (h : Is S (tkOpd o ++ R) n d) (k : ∀ S, Is S R n d → Rd (value2 S o) R' n' d' v) : Rd (value S) R' n' d' v := by
  obtain ⟨x, r, e, m, c1, c2, c3⟩ := tkOpd_kw ho
  have h' : Is S (x :: (r ++ R)) n d := by rw [e] at h; exact h
  unfold value
  rw [h'.at_no m c1, if_neg (by decide), h'.at_no m c2, if_neg (by decide), h'.at_no m c3, if_neg (by decide)]
  exact (operand_rd ho h).bnd k

theorem value_rd {S : St} {op : Int} {y p : ByteArray} {a : List Opd} {pr : List ByteArray} {R : List TK} {n d : Nat} (hv : rVal op y p a pr)
    (h : Is S (tkVal op y p a pr ++ (2, ch 59) :: R) n d) : Rd (value S) ((2, ch 59) :: R) n d ⟨op, y, p, a, pr⟩ := by
  have ms : mayK (2, ch 59) = true := by decide
  rcases hv with ⟨rfl, rfl, rfl, rfl, o, rfl, ho⟩ | ⟨rfl, rfl, hp, rfl, o, q, rfl, ho, hq⟩ | ⟨rfl, hy, hp, rfl, rfl⟩ | ⟨rfl, rfl, rfl, hpr, l, o, rfl, hl, hq, ho⟩ | ⟨rfl, rfl, hp, rfl, ha⟩ | ⟨rfl, hy, rfl, rfl, ha⟩ | ⟨rfl, rfl, rfl, rfl, rfl⟩
  · refine value_opd ho h fun S1 h1 => ?_
    unfold value2
    have n1 := h1.at_no ms (t := ch 46) (by decide)
    have n2 := h1.at_no ms (t := ch 40) (by decide)
    have n3 : S1.atArith = false := by
      unfold St.atArith
      rw [h1.at_no ms (t := ch 43) (by decide), h1.at_no ms (t := ch 45) (by decide), h1.at_no ms (t := ch 42) (by decide), h1.at_no ms (t := ch 60) (by decide), h1.at_no ms (t := ch 61) (by decide)]; rfl
    rw [n1, n2, n3, if_neg (by simp), if_neg (by simp), if_neg (by decide)]
    exact Rd.ok h1
  · have h : Is S (tkOpd o ++ ((2, p) :: (tkOpd q ++ (2, ch 59) :: R))) n d := by simpa [tkVal, opd] using h
    refine value_opd ho h fun S1 h1 => ?_
    have mp := arS_may hp
    have n1 : S1.at (ch 46) = false := h1.at_no mp (by rcases hp with h | h | h | h | h <;> subst h <;> decide)
    have n2 : S1.at (ch 40) = false := h1.at_no mp (by rcases hp with h | h | h | h | h <;> subst h <;> decide)
    have n3 : S1.atArith = true := by
      unfold St.atArith
      rw [h1.at mp, h1.at mp, h1.at mp, h1.at mp, h1.at mp]
      rcases hp with h | h | h | h | h <;> subst h <;> decide
    unfold value2
    rw [n1, n2, n3, if_neg (by simp), if_neg (by simp), if_pos rfl]
    refine (operand_rd hq h1.adv).bnd fun S2 h2 => ?_
    rw [(h1.now mp).2]
    exact Rd.ok h2
  · have h : Is S (tkOpd ⟨4, 0, y⟩ ++ ((2, ch 46) :: (0, p) :: (2, ch 59) :: R)) n d := h
    refine value_opd (.inr (.inr ⟨.inr rfl, rfl, hy⟩)) h fun S1 h1 => ?_
    unfold value2
    rw [if_pos ⟨rfl, h1.at_yes (by decide)⟩]
    exact (name_rd h1.adv hp).bnd fun S2 h2 => Rd.ok h2
  · have h : Is S ((0, kNew) :: (tkNew pr l o ++ (2, ch 59) :: R)) n d := by
      have e1 : (l ++ [o]).take pr.length = l := by rw [hl]; exact List.take_left
      have e2 : opd (l ++ [o]) pr.length = o := by rw [hl]; simp [opd]
      have e : tkVal 4 em em (l ++ [o]) pr = (0, kNew) :: tkNew pr l o := by
        show (0, kNew) :: tkNew pr ((l ++ [o]).take pr.length) (opd (l ++ [o]) pr.length) = _
        rw [e1, e2]
      rw [e] at h; exact h
    have m : mayK (0, kNew) = true := by decide
    unfold value
    rw [h.at_no m (t := kIn) (by decide), if_neg (by decide), h.at_no m (t := kCall) (by decide), if_neg (by decide), if_pos (h.at_yes m)]
    exact object_rd hpr hq hl ho h.adv
  · have h : Is S ((0, kCall) :: (0, p) :: (tkOps a ++ (2, ch 59) :: R)) n d := h
    have m : mayK (0, kCall) = true := by decide
    unfold value
    rw [h.at_no m (t := kIn) (by decide), if_neg (by decide), if_pos (h.at_yes m)]
    refine (name_rd h.adv hp).bnd fun S1 h1 => ?_
    exact (operands_rd ha h1).bnd fun S2 h2 => Rd.ok h2
  · have h : Is S (tkOpd ⟨4, 0, y⟩ ++ (tkOps a ++ (2, ch 59) :: R)) n d := h
    refine value_opd (.inr (.inr ⟨.inr rfl, rfl, hy⟩)) h fun S1 h1 => ?_
    have h1' : Is S1 ((2, ch 40) :: (tkSeq tkOpd a ++ [(2, ch 41)] ++ (2, ch 59) :: R)) n d := h1
    have m : mayK (2, ch 40) = true := by decide
    unfold value2
    rw [h1'.at_no m (t := ch 46) (by decide), if_neg (by simp), if_pos ⟨rfl, h1'.at_yes m⟩]
    exact (operands_rd ha h1).bnd fun S2 h2 => Rd.ok h2
  · have h : Is S ((0, kIn) :: (2, ch 59) :: R) n d := h
    unfold value
    rw [if_pos (h.at_yes (by decide))]
    exact Rd.ok h.adv

end M
end Go.Proofs.YtkpmpnebmkeocaaGreatDoor
end
section
namespace Go.Proofs.YtkpmpnebmkeocaaGreatDoor
namespace M

def rPlain (op : Int) (x y p : ByteArray) (a : List Opd) (pr : List ByteArray) : Prop :=
  (nm x = true ∧ rVal op y p a pr) ∨
  (op = 3 ∧ nm x = true ∧ y = em ∧ nm p = true ∧ pr = [] ∧ ∃ o, a = [o] ∧ rOpd o) ∨
  ((op = 8 ∨ op = 11) ∧ x = em ∧ y = em ∧ p = em ∧ pr = [] ∧ ∃ o, a = [o] ∧ rOpd o)
def rTr : Tr → Nat → Prop
  | .nil, _ => True
  | .cons op x y p a pr th el nx, k =>
    ((rPlain op x y p a pr ∧ th = .nil ∧ el = .nil) ∨
     ((op = 9 ∨ (op = 10 ∧ el = .nil)) ∧ x = em ∧ y = em ∧ p = em ∧ pr = [] ∧ (∃ o, a = [o] ∧ rOpd o) ∧ 0 < k ∧ rTr th (k - 1) ∧ rTr el (k - 1))) ∧ rTr nx k
def tkPlain (op : Int) (x y p : ByteArray) (a : List Opd) (pr : List ByteArray) : List TK :=
  if op = 3 then (0, x) :: (2, ch 46) :: (0, p) :: (2, ch 61) :: tkOpd (opd a 0)
  else if op = 8 then (0, kOut) :: tkOpd (opd a 0)
  else if op = 11 then (0, kReturn) :: tkOpd (opd a 0)
  else (0, x) :: (2, ch 61) :: tkVal op y p a pr
def tkBlk (l : List TK) : List TK := (2, ch 123) :: (l ++ [(2, ch 125)])
def Tr.isNil : Tr → Bool
  | .nil => true
  | _ => false
def tkTr : Tr → List TK
  | .nil => []
  | .cons op x y p a pr th el nx =>
    (if op = 9 then (0, kIf) :: (tkOpd (opd a 0) ++ (tkBlk (tkTr th) ++ (if el.isNil = true then [] else (0, kElse) :: tkBlk (tkTr el))))
     else if op = 10 then (0, kWhile) :: (tkOpd (opd a 0) ++ tkBlk (tkTr th))
     else tkPlain op x y p a pr ++ [(2, ch 59)]) ++ tkTr nx
def cnt : Tr → Nat
  | .nil => 0
  | .cons _ _ _ _ _ _ th el nx => 1 + cnt th + cnt el + cnt nx

theorem rVal_op {op : Int} {y p : ByteArray} {a : List Opd} {pr : List ByteArray} (h : rVal op y p a pr) : op ≠ 3 ∧ op ≠ 8 ∧ op ≠ 11 ∧ op ≠ 9 ∧ op ≠ 10 := by
  unfold rVal at h
  omega

theorem plain_rd {S : St} {op : Int} {x y p : ByteArray} {a : List Opd} {pr : List ByteArray} {R : List TK} {n d : Nat} (hs : rPlain op x y p a pr)
    (h : Is S (tkPlain op x y p a pr ++ (2, ch 59) :: R) n d) : Rd (plain S) ((2, ch 59) :: R) n d (one op x y p a pr .nil .nil) := by
  unfold plain
  rcases hs with ⟨hx, hv⟩ | ⟨rfl, hx, rfl, hp, rfl, o, rfl, ho⟩ | ⟨hop, rfl, rfl, rfl, rfl, o, rfl, ho⟩
  · obtain ⟨n3, n8, n11, _, _⟩ := rVal_op hv
    have h : Is S ((0, x) :: (2, ch 61) :: (tkVal op y p a pr ++ (2, ch 59) :: R)) n d := by
      unfold tkPlain at h; rw [if_neg n3, if_neg n8, if_neg n11] at h; exact h
    have m := nm_may hx
    have hw := nm_kw hx
    rw [h.at_no m (t := kOut) (kw_ne hw (by decide)), if_neg (by decide), h.at_no m (t := kReturn) (kw_ne hw (by decide)), if_neg (by decide)]
    refine (name_rd h hx).bnd fun S1 h1 => ?_
    rw [h1.at_no (by decide) (t := ch 46) (by decide), if_neg (by decide)]
    refine (take_rd h1 (by decide)).bnd fun S2 h2 => ?_
    exact (value_rd hv h2).bnd fun S3 h3 => Rd.ok h3
  · have h : Is S ((0, x) :: (2, ch 46) :: (0, p) :: (2, ch 61) :: (tkOpd o ++ (2, ch 59) :: R)) n d := h
    have m := nm_may hx
    have hw := nm_kw hx
    rw [h.at_no m (t := kOut) (kw_ne hw (by decide)), if_neg (by decide), h.at_no m (t := kReturn) (kw_ne hw (by decide)), if_neg (by decide)]
    refine (name_rd h hx).bnd fun S1 h1 => ?_
    rw [if_pos (h1.at_yes (by decide))]
    refine (name_rd h1.adv hp).bnd fun S2 h2 => ?_
    refine (take_rd h2 (by decide)).bnd fun S3 h3 => ?_
    exact (one_rd ho h3).bnd fun S4 h4 => Rd.ok h4
  · rcases hop with rfl | rfl
    · have h : Is S ((0, kOut) :: (tkOpd o ++ (2, ch 59) :: R)) n d := h
      rw [if_pos (h.at_yes (by decide))]
      exact (one_rd ho h.adv).bnd fun S1 h1 => Rd.ok h1
    · have h : Is S ((0, kReturn) :: (tkOpd o ++ (2, ch 59) :: R)) n d := h
      have m : mayK (0, kReturn) = true := by decide
      rw [h.at_no m (t := kOut) (by decide), if_neg (by decide), if_pos (h.at_yes m)]
      exact (one_rd ho h.adv).bnd fun S1 h1 => Rd.ok h1

theorem tkPlain_head {op : Int} {x y p : ByteArray} {a : List Opd} {pr : List ByteArray} (hs : rPlain op x y p a pr) :
    ∃ s r, tkPlain op x y p a pr = (0, s) :: r ∧ mayK (0, s) = true ∧ (nm s = true ∨ s = kOut ∨ s = kReturn) ∧ s ≠ kIf ∧ s ≠ kWhile ∧ s ≠ ch 125 := by
  rcases hs with ⟨hx, hv⟩ | ⟨rfl, hx, rfl, hp, rfl, o, rfl, ho⟩ | ⟨hop, rfl, rfl, rfl, rfl, o, rfl, ho⟩
  · obtain ⟨n3, n8, n11, _, _⟩ := rVal_op hv
    have hw := nm_kw hx
    refine ⟨x, (2, ch 61) :: tkVal op y p a pr, ?_, nm_may hx, .inl hx, kw_ne hw (by decide), kw_ne hw (by decide), nm_sgn hx 125 (by decide)⟩
    · unfold tkPlain; rw [if_neg n3, if_neg n8, if_neg n11]
  · have hw := nm_kw hx
    exact ⟨x, _, rfl, nm_may hx, .inl hx, kw_ne hw (by decide), kw_ne hw (by decide), nm_sgn hx 125 (by decide)⟩
  · rcases hop with rfl | rfl
    · exact ⟨kOut, _, rfl, by decide, .inr (.inl rfl), by decide, by decide, by decide⟩
    · exact ⟨kReturn, _, rfl, by decide, .inr (.inr rfl), by decide, by decide, by decide⟩

theorem blk_rd {N : Nat} {t : Tr} {k : Nat} {S : St} {R : List TK} {n d : Nat}
    (ih : ∀ (m : Nat) (S : St) (acc : Tr) (R : List TK) (n d : Nat), (tkTr t ++ (2, ch 125) :: R).length ≤ N → (tkTr t ++ (2, ch 125) :: R).length < m →
      Is S (tkTr t ++ (2, ch 125) :: R) n d → n + cnt t ≤ 2000 → d + k = 32 → Rd (stmts (stmt (blk N)) m S acc) R (n + cnt t) d (acc.app t))
    (h : Is S (tkBlk (tkTr t) ++ R) n d) (hN : (tkBlk (tkTr t) ++ R).length ≤ N + 1) (hn : n + cnt t ≤ 2000) (hd : d + (k + 1) = 32) :
    Rd (blk (N + 1) S) R (n + cnt t) d t := by
  have h : Is S ((2, ch 123) :: (tkTr t ++ (2, ch 125) :: R)) n d := by simpa [tkBlk] using h
  have hN : (tkTr t ++ (2, ch 125) :: R).length ≤ N := by simp [tkBlk] at hN ⊢; omega
  unfold blk block
  rw [if_neg (by rw [h.d]; omega)]
  refine (take_rd h (by decide)).bnd fun S1 h1 => ?_
  have hdn : Is S1.down (tkTr t ++ (2, ch 125) :: R) n (d + 1) := ⟨h1.rest, h1.n, by show S1.d + 1 = _; rw [h1.d]⟩
  refine (ih _ S1.down .nil R n (d + 1) hN (by rw [h1.len]; omega) hdn hn (by omega)).bnd fun S2 h2 => ?_
  exact Rd.ok ⟨h2.rest, h2.n, by show S2.d - 1 = _; rw [h2.d]; rfl⟩

theorem stmts_rd : ∀ (t : Tr) (k N m : Nat) (S : St) (acc : Tr) (R : List TK) (n d : Nat), rTr t k → (tkTr t ++ (2, ch 125) :: R).length ≤ N → (tkTr t ++ (2, ch 125) :: R).length < m →
      Is S (tkTr t ++ (2, ch 125) :: R) n d → n + cnt t ≤ 2000 → d + k = 32 → Rd (stmts (stmt (blk N)) m S acc) R (n + cnt t) d (acc.app t)
  | .nil, k, N, m, S, acc, R, n, d, ht, hN, hm, h, hn, hd => by
    have h : Is S ((2, ch 125) :: R) n d := h
    cases m with
    | zero => omega
    | succ m =>
      unfold stmts
      rw [if_pos (h.at_yes (by decide)), app_nil]
      exact Rd.ok h.adv
  | .cons op x y p a pr th el nx, k, N, m, S, acc, R, n, d, ht, hN, hm, h, hn, hd => by
    obtain ⟨hs, hnx⟩ := ht
    cases m with
    | zero => omega
    | succ m =>
      have fin : ∀ (S1 : St) (n1 : Nat) (a1 : Tr), n1 = n + (1 + cnt th + cnt el) → a1 = one op x y p a pr th el → (tkTr nx ++ (2, ch 125) :: R).length < (tkTr (.cons op x y p a pr th el nx) ++ (2, ch 125) :: R).length →
          Is S1 (tkTr nx ++ (2, ch 125) :: R) n1 d → Rd (stmts (stmt (blk N)) m S1 (acc.app a1)) R (n + cnt (.cons op x y p a pr th el nx)) d (acc.app (.cons op x y p a pr th el nx)) := by
        intro S1 n1 a1 e1 e2 hlt h1
        subst e1 e2
        have hc : cnt (.cons op x y p a pr th el nx) = 1 + cnt th + cnt el + cnt nx := rfl
        have := stmts_rd nx k N m S1 (acc.app (one op x y p a pr th el)) R _ d hnx (by omega) (by omega) h1 (by omega) hd
        rw [app_assoc] at this
        rw [hc, ← Nat.add_assoc]
        exact this
      unfold stmts
      rcases hs with ⟨hp, rfl, rfl⟩ | ⟨hop, rfl, rfl, rfl, rfl, ⟨o, rfl, ho⟩, hk, hth, hel⟩
      · obtain ⟨s, r, e, ms, hs, c1, c2, c3⟩ := tkPlain_head hp
        have no : op ≠ 9 ∧ op ≠ 10 := by
          rcases hp with ⟨_, hv⟩ | ⟨h, _⟩ | ⟨h, _⟩
          · exact ⟨(rVal_op hv).2.2.2.1, (rVal_op hv).2.2.2.2⟩
          · omega
          · omega
        have et : tkTr (.cons op x y p a pr .nil .nil nx) = tkPlain op x y p a pr ++ [(2, ch 59)] ++ tkTr nx := by
          rw [tkTr, if_neg no.1, if_neg no.2]
        have h0 : Is S (tkPlain op x y p a pr ++ (2, ch 59) :: (tkTr nx ++ (2, ch 125) :: R)) n d := by
          rw [et] at h; simpa using h
        have h' : Is S ((0, s) :: (r ++ (2, ch 59) :: (tkTr nx ++ (2, ch 125) :: R))) n d := by rw [e] at h0; exact h0
        rw [h'.at_no ms c3, if_neg (by decide)]
        have e0 : cnt (.cons op x y p a pr .nil .nil nx) = 1 + 0 + 0 + cnt nx := rfl
        have hst : S.atStmt = true := by
          unfold St.atStmt
          rcases hs with hs | rfl | rfl
          · have : S.isName = true := by unfold St.isName; rw [(h'.now ms).1, (h'.now ms).2, nm_kw hs]; rfl
            rw [this]; rfl
          · rw [h'.at_yes ms]; simp
          · rw [h'.at_yes ms]; simp
        have hr : Rd (stmt (blk N) S) (tkTr nx ++ (2, ch 125) :: R) (n + 1) d (one op x y p a pr .nil .nil) := by
          unfold stmt
          rw [if_pos hst, if_neg (by rw [h.n]; omega), h'.at_no ms c1, if_neg (by decide), h'.at_no ms c2, if_neg (by decide)]
          have hmore : Is S.more (tkPlain op x y p a pr ++ (2, ch 59) :: (tkTr nx ++ (2, ch 125) :: R)) (n + 1) d := ⟨h0.rest, by show S.n + 1 = _; rw [h0.n], h0.d⟩
          refine (plain_rd hp hmore).bnd fun S1 h1 => ?_
          exact (take_rd h1 (by decide)).bnd fun S2 h2 => Rd.ok h2
        refine hr.bnd fun S1 h1 => ?_
        exact fin S1 _ _ (by simp [cnt]) rfl (by rw [et]; simp; omega) h1
      · obtain ⟨k, rfl⟩ : ∃ k', k = k' + 1 := ⟨k - 1, by omega⟩
        have hth : rTr th k := hth
        have hel : rTr el k := hel
        have hc : cnt (.cons op em em em [o] [] th el nx) = 1 + cnt th + cnt el + cnt nx := rfl
        rcases hop with rfl | ⟨rfl, rfl⟩
        · have et : tkTr (.cons 9 em em em [o] [] th el nx) = (0, kIf) :: (tkOpd o ++ (tkBlk (tkTr th) ++ (if el.isNil = true then [] else (0, kElse) :: tkBlk (tkTr el)))) ++ tkTr nx := rfl
          have h0 : Is S ((0, kIf) :: (tkOpd o ++ (tkBlk (tkTr th) ++ ((if el.isNil = true then [] else (0, kElse) :: tkBlk (tkTr el)) ++ (tkTr nx ++ (2, ch 125) :: R))))) n d := by
            rw [et] at h; simpa only [List.append_assoc, List.cons_append] using h
          have hlen := h.len
          have m9 : mayK (0, kIf) = true := by decide
          rw [h0.at_no m9 (t := ch 125) (by decide), if_neg (by decide)]
          have hst : S.atStmt = true := by
            unfold St.atStmt; rw [h0.at_yes m9]; simp
          have hr : Rd (stmt (blk N) S) (tkTr nx ++ (2, ch 125) :: R) (n + 1 + cnt th + cnt el) d (one 9 em em em [o] [] th el) := by
            unfold stmt
            rw [if_pos hst, if_neg (by rw [h.n]; omega), if_pos (h0.at_yes m9)]
            have hmore : Is S.more.adv (tkOpd o ++ (tkBlk (tkTr th) ++ ((if el.isNil = true then [] else (0, kElse) :: tkBlk (tkTr el)) ++ (tkTr nx ++ (2, ch 125) :: R)))) (n + 1) d :=
              Is.adv ⟨h0.rest, by show S.n + 1 = _; rw [h0.n], h0.d⟩
            have ll := hmore.len
            have l0 := h0.len
            rw [List.length_cons] at l0
            simp only [List.length_append] at ll l0
            obtain ⟨N, rfl⟩ : ∃ N', N = N' + 1 := ⟨N - 1, by omega⟩
            unfold branch
            refine (one_rd ho hmore).bnd fun S1 h1 => ?_
            refine (blk_rd (fun m S acc R n d a b c e f => stmts_rd th k N m S acc R n d hth a b c e f) h1 (by simp only [List.length_append]; omega) (by omega) (by omega)).bnd fun S2 h2 => ?_
            cases el with
            | nil =>
              have h2 : Is S2 (tkTr nx ++ (2, ch 125) :: R) (n + 1 + cnt th) d := h2
              have : S2.at kElse = false := by
                cases nx with
                | nil => exact h2.at_no (x := (2, ch 125)) (by decide) (by decide)
                | cons op' x' y' p' a' pr' th' el' nx' =>
                  obtain ⟨hs', -⟩ := hnx
                  rcases hs' with ⟨hp', rfl, rfl⟩ | ⟨hop', -⟩
                  · obtain ⟨s, r, e, ms, hs, c1, c2, c3⟩ := tkPlain_head hp'
                    have no : op' ≠ 9 ∧ op' ≠ 10 := by
                      rcases hp' with ⟨_, hv⟩ | ⟨h, _⟩ | ⟨h, _⟩
                      · exact ⟨(rVal_op hv).2.2.2.1, (rVal_op hv).2.2.2.2⟩
                      · omega
                      · omega
                    rw [tkTr, if_neg no.1, if_neg no.2, e] at h2
                    refine Is.at_no (x := (0, s)) h2 ms ?_
                    rcases hs with hs | rfl | rfl
                    · exact kw_ne (nm_kw hs) (by decide)
                    · decide
                    · decide
                  · rcases hop' with rfl | ⟨rfl, rfl⟩
                    · exact Is.at_no (x := (0, kIf)) h2 (by decide) (by decide)
                    · exact Is.at_no (x := (0, kWhile)) h2 (by decide) (by decide)
              rw [this, if_neg (by decide)]
              exact Rd.ok h2
            | cons op' x' y' p' a' pr' th' el' nx' =>
              generalize hE : Tr.cons op' x' y' p' a' pr' th' el' nx' = el at *
              have hnn : el.isNil = false := by rw [← hE]; rfl
              rw [hnn, if_neg (by decide)] at h2
              have h2 : Is S2 ((0, kElse) :: (tkBlk (tkTr el) ++ (tkTr nx ++ (2, ch 125) :: R))) (n + 1 + cnt th) d := h2
              rw [if_pos (h2.at_yes (by decide))]
              rw [hnn, if_neg (by decide)] at l0
              simp only [List.length_cons] at l0
              exact (blk_rd (fun m S acc R n d a b c e f => stmts_rd el k N m S acc R n d hel a b c e f) h2.adv (by simp only [List.length_append, List.length_cons] at l0 ⊢; omega) (by omega) (by omega)).bnd fun S3 h3 => Rd.ok h3
          refine hr.bnd fun S1 h1 => ?_
          exact fin S1 _ _ (by omega) rfl (by rw [et]; simp; omega) h1
        · have et : tkTr (.cons 10 em em em [o] [] th .nil nx) = (0, kWhile) :: (tkOpd o ++ tkBlk (tkTr th)) ++ tkTr nx := rfl
          have h0 : Is S ((0, kWhile) :: (tkOpd o ++ (tkBlk (tkTr th) ++ (tkTr nx ++ (2, ch 125) :: R)))) n d := by
            rw [et] at h; simpa only [List.append_assoc, List.cons_append] using h
          have hlen := h.len
          have m9 : mayK (0, kWhile) = true := by decide
          have hc0 : cnt Tr.nil = 0 := rfl
          rw [h0.at_no m9 (t := ch 125) (by decide), if_neg (by decide)]
          have hst : S.atStmt = true := by
            unfold St.atStmt; rw [h0.at_yes m9]; simp
          have hr : Rd (stmt (blk N) S) (tkTr nx ++ (2, ch 125) :: R) (n + 1 + cnt th) d (one 10 em em em [o] [] th .nil) := by
            unfold stmt
            rw [if_pos hst, if_neg (by rw [h.n]; omega), h0.at_no m9 (t := kIf) (by decide), if_neg (by decide), if_pos (h0.at_yes m9)]
            have hmore : Is S.more.adv (tkOpd o ++ (tkBlk (tkTr th) ++ (tkTr nx ++ (2, ch 125) :: R))) (n + 1) d :=
              Is.adv ⟨h0.rest, by show S.n + 1 = _; rw [h0.n], h0.d⟩
            have l0 := h0.len
            rw [List.length_cons] at l0
            simp only [List.length_append] at l0
            obtain ⟨N, rfl⟩ : ∃ N', N = N' + 1 := ⟨N - 1, by omega⟩
            unfold loopS
            refine (one_rd ho hmore).bnd fun S1 h1 => ?_
            exact (blk_rd (fun m S acc R n d a b c e f => stmts_rd th k N m S acc R n d hth a b c e f) h1 (by simp only [List.length_append]; omega) (by omega) (by omega)).bnd fun S2 h2 => Rd.ok h2
          refine hr.bnd fun S1 h1 => ?_
          exact fin S1 _ _ (by omega) rfl (by rw [et]; simp; omega) h1

end M
end Go.Proofs.YtkpmpnebmkeocaaGreatDoor
end
section
namespace Go.Proofs.YtkpmpnebmkeocaaGreatDoor
namespace M

def rFn (f : Fn) : Prop := nm f.name = true ∧ (∀ s ∈ f.ps, nm s = true) ∧ rTr f.body 31
def tkFnA (f : Fn) : List TK := (0, kFun) :: (0, f.name) :: (2, ch 40) :: (tkSeq (fun s => [(0, s)]) f.ps ++ (2, ch 41) :: (2, ch 123) :: tkTr f.body)
def tkFn (f : Fn) : List TK := tkFnA f ++ [(2, ch 125)]
def tkProg (p : List Fn) : List TK := p.flatMap tkFn
def cntP : List Fn → Nat
  | [] => 0
  | f :: l => cnt f.body + cntP l

theorem function_rd {N : Nat} {S : St} {f : Fn} {R : List TK} {n : Nat} (hf : rFn f) (h : Is S (tkFn f ++ R) n 0) (hN : (tkFn f ++ R).length ≤ N) (hn : n + cnt f.body ≤ 2000) :
    Rd (function N S) R (n + cnt f.body) 0 f := by
  obtain ⟨h1, h2, h3⟩ := hf
  have h : Is S ((0, kFun) :: (0, f.name) :: (2, ch 40) :: (tkSeq (fun s => [(0, s)]) f.ps ++ (2, ch 41) :: (tkBlk (tkTr f.body) ++ R))) n 0 := by
    simpa [tkFn, tkFnA, tkBlk] using h
  have hl := h.len
  have e : (tkFn f ++ R).length = ((0, kFun) :: (0, f.name) :: (2, ch 40) :: (tkSeq (fun s => [(0, s)]) f.ps ++ (2, ch 41) :: (tkBlk (tkTr f.body) ++ R))).length := by
    simp [tkFn, tkFnA, tkBlk]
  rw [e] at hN
  simp only [List.length_cons, List.length_append] at hN
  obtain ⟨N, rfl⟩ : ∃ N', N = N' + 1 := ⟨N - 1, by omega⟩
  unfold function
  refine (take_rd h (by decide)).bnd fun S1 g1 => ?_
  refine (name_rd g1 h1).bnd fun S2 g2 => ?_
  refine (take_rd g2 (by decide)).bnd fun S3 g3 => ?_
  refine (names_rd h2 g3).bnd fun S4 g4 => ?_
  exact (blk_rd (k := 31) (fun m S acc R n d a b c e f' => stmts_rd f.body 31 N m S acc R n d h3 a b c e f') g4 (by simp only [List.length_append]; omega) (by omega) (by omega)).bnd fun S5 g5 => Rd.ok g5

theorem tkFn_pos (f : Fn) : 1 ≤ (tkFn f).length := by simp [tkFn]
theorem funcs_rd {N : Nat} : ∀ (p : List Fn) (k : Nat) (S : St) (acc : List Fn) (n : Nat), (∀ f ∈ p, rFn f) → (tkProg p).length ≤ N → p.length ≤ k → Is S (tkProg p) n 0 → n + cntP p ≤ 2000 →
    Rd (funcs N k S acc) [] (n + cntP p) 0 (acc ++ p)
  | [], k, S, acc, n, hp, hN, hk, h, hn => by
    have h : Is S [] n 0 := h
    have e : S.rest.isEmpty = true := by have := h.len; simp only [List.length_nil] at this; rw [List.isEmpty_iff_length_eq_zero]; exact this
    rw [List.append_nil]
    cases k with
    | zero => exact Rd.ok h
    | succ k => unfold funcs; rw [if_pos e]; exact Rd.ok h
  | f :: p, k, S, acc, n, hp, hN, hk, h, hn => by
    cases k with
    | zero => simp at hk
    | succ k =>
      have h : Is S (tkFn f ++ tkProg p) n 0 := by simpa [tkProg] using h
      have hN : (tkFn f ++ tkProg p).length ≤ N := by simpa [tkProg] using hN
      have e : S.rest.isEmpty = false := by
        have := h.len
        have h1 := tkFn_pos f
        rw [List.length_append] at this
        cases hr : S.rest with
        | nil => rw [hr] at this; simp only [List.length_nil] at this; omega
        | cons a b => rfl
      have hc : cntP (f :: p) = cnt f.body + cntP p := rfl
      unfold funcs
      rw [e, if_neg (by decide)]
      refine (function_rd (hp f (List.mem_cons_self ..)) h hN (by omega)).bnd fun S1 h1 => ?_
      have := funcs_rd (N := N) p k S1 (acc ++ [f]) _ (fun g hg => hp g (List.mem_cons_of_mem _ hg)) (by rw [List.length_append] at hN; omega) (by simpa using hk) h1 (by omega)
      rw [hc, ← Nat.add_assoc]
      simpa using this
theorem tkProg_len (p : List Fn) : p.length ≤ (tkProg p).length := by
  induction p with
  | nil => simp
  | cons f p ih => have := tkFn_pos f; simp only [tkProg, List.flatMap_cons, List.length_append, List.length_cons] at ih ⊢; omega
theorem read_rd {l : List Tok} {fin : Int} {p : List Fn} (hp : ∀ f ∈ p, rFn f) (hc : cntP p ≤ 2000) (h : sp l = tkProg p) : read l fin = .ok p := by
  have hl : l.length = (tkProg p).length := by rw [← h]; simp [sp]
  have := tkProg_len p
  obtain ⟨S, e, -⟩ := funcs_rd (N := l.length + 1) p (l.length + 1) ⟨l, fin, 0, 0⟩ [] 0 hp (by omega) (by omega) ⟨h, rfl, rfl⟩ (by omega)
  unfold read
  rw [e]; rfl

def Mays (l : List TK) : Prop := ∀ x ∈ l, mayK x = true
theorem Mays.nil : Mays [] := fun x hx => by cases hx
theorem Mays.cons {x : TK} {l : List TK} (h : mayK x = true) (k : Mays l) : Mays (x :: l) := fun y hy => by
  rcases List.mem_cons.1 hy with rfl | hy
  · exact h
  · exact k y hy
theorem Mays.app {a b : List TK} (h : Mays a) (k : Mays b) : Mays (a ++ b) := fun y hy => by
  rcases List.mem_append.1 hy with hy | hy
  · exact h y hy
  · exact k y hy
theorem tkOpd_mays {o : Opd} (ho : rOpd o) : Mays (tkOpd o) := by
  obtain ⟨k, v, s⟩ := o
  rcases ho with (ho | ho | ho) | ⟨hk, h0, h1, hs⟩ | ⟨hk, h0, hs⟩
  · cases ho; exact .cons (by decide) .nil
  · cases ho; exact .cons (by decide) .nil
  · cases ho; exact .cons (by decide) .nil
  · simp only at hk; subst hk; exact .cons (digT_may h1) .nil
  · simp only at hk
    rcases hk with hk | hk
    · subst hk; exact .cons (by decide) (.cons (nm_may hs) .nil)
    · subst hk; exact .cons (nm_may hs) .nil
theorem tkMore_mays {α : Type} {tk : α → List TK} : ∀ {l : List α}, (∀ o ∈ l, Mays (tk o)) → Mays (tkMore tk l)
  | [], _ => .nil
  | o :: l, h => by
    have e : tkMore tk (o :: l) = (2, ch 44) :: (tk o ++ tkMore tk l) := by simp [tkMore]
    rw [e]
    exact .cons (by decide) ((h o (List.mem_cons_self ..)).app (tkMore_mays fun q hq => h q (List.mem_cons_of_mem _ hq)))
theorem tkSeq_mays {α : Type} {tk : α → List TK} {l : List α} (h : ∀ o ∈ l, Mays (tk o)) : Mays (tkSeq tk l) := by
  cases l with
  | nil => exact .nil
  | cons o l => exact (h o (List.mem_cons_self ..)).app (tkMore_mays fun q hq => h q (List.mem_cons_of_mem _ hq))
theorem tkOps_mays {l : List Opd} (h : ∀ o ∈ l, rOpd o) : Mays (tkOps l) := .cons (by decide) ((tkSeq_mays fun o ho => tkOpd_mays (h o ho)).app (.cons (by decide) .nil))
theorem tkVal_mays {op : Int} {y p : ByteArray} {a : List Opd} {pr : List ByteArray} (hv : rVal op y p a pr) : Mays (tkVal op y p a pr) := by
  rcases hv with ⟨rfl, rfl, rfl, rfl, o, rfl, ho⟩ | ⟨rfl, rfl, hp, rfl, o, q, rfl, ho, hq⟩ | ⟨rfl, hy, hp, rfl, rfl⟩ | ⟨rfl, rfl, rfl, hpr, l, o, rfl, hl, hq, ho⟩ | ⟨rfl, rfl, hp, rfl, ha⟩ | ⟨rfl, hy, rfl, rfl, ha⟩ | ⟨rfl, rfl, rfl, rfl, rfl⟩
  · exact tkOpd_mays ho
  · exact (tkOpd_mays ho).app (.cons (arS_may hp) (tkOpd_mays hq))
  · exact .cons (nm_may hy) (.cons (by decide) (.cons (nm_may hp) .nil))
  · have e1 : (l ++ [o]).take pr.length = l := by rw [hl]; exact List.take_left
    have e2 : opd (l ++ [o]) pr.length = o := by rw [hl]; simp [opd]
    show Mays ((0, kNew) :: tkNew pr ((l ++ [o]).take pr.length) (opd (l ++ [o]) pr.length))
    rw [e1, e2]
    refine .cons (by decide) (.cons (by decide) (Mays.app (tkSeq_mays fun q h => ?_) (.cons (by decide) (.cons (by decide) (tkOpd_mays ho)))))
    exact .cons (nm_may (hpr _ (List.of_mem_zip h).1)) (.cons (by decide) (tkOpd_mays (hq _ (List.of_mem_zip h).2)))
  · exact .cons (by decide) (.cons (nm_may hp) (tkOps_mays ha))
  · exact .cons (nm_may hy) (tkOps_mays ha)
  · exact .cons (by decide) .nil
theorem tkPlain_mays {op : Int} {x y p : ByteArray} {a : List Opd} {pr : List ByteArray} (hs : rPlain op x y p a pr) : Mays (tkPlain op x y p a pr) := by
  rcases hs with ⟨hx, hv⟩ | ⟨rfl, hx, rfl, hp, rfl, o, rfl, ho⟩ | ⟨hop, rfl, rfl, rfl, rfl, o, rfl, ho⟩
  · obtain ⟨n3, n8, n11, _, _⟩ := rVal_op hv
    unfold tkPlain; rw [if_neg n3, if_neg n8, if_neg n11]
    exact .cons (nm_may hx) (.cons (by decide) (tkVal_mays hv))
  · exact .cons (nm_may hx) (.cons (by decide) (.cons (nm_may hp) (.cons (by decide) (tkOpd_mays ho))))
  · rcases hop with rfl | rfl
    · exact .cons (by decide) (tkOpd_mays ho)
    · exact .cons (by decide) (tkOpd_mays ho)
theorem tkBlk_mays {l : List TK} (h : Mays l) : Mays (tkBlk l) := .cons (by decide) (h.app (.cons (by decide) .nil))
theorem tkTr_mays : ∀ (t : Tr) (k : Nat), rTr t k → Mays (tkTr t)
  | .nil, _, _ => .nil
  | .cons op x y p a pr th el nx, k, ⟨hs, hnx⟩ => by
    rw [tkTr]
    refine Mays.app ?_ (tkTr_mays nx k hnx)
    rcases hs with ⟨hp, rfl, rfl⟩ | ⟨hop, rfl, rfl, rfl, rfl, ⟨o, rfl, ho⟩, hk, hth, hel⟩
    · have no : op ≠ 9 ∧ op ≠ 10 := by
        rcases hp with ⟨_, hv⟩ | ⟨h, _⟩ | ⟨h, _⟩
        · exact ⟨(rVal_op hv).2.2.2.1, (rVal_op hv).2.2.2.2⟩
        · omega
        · omega
      rw [if_neg no.1, if_neg no.2]
      exact (tkPlain_mays hp).app (.cons (by decide) .nil)
    · rcases hop with rfl | ⟨rfl, rfl⟩
      · rw [if_pos rfl]
        refine .cons (by decide) ((tkOpd_mays ho).app ((tkBlk_mays (tkTr_mays th _ hth)).app ?_))
        split
        · exact .nil
        · exact .cons (by decide) (tkBlk_mays (tkTr_mays el _ hel))
      · rw [if_neg (by decide), if_pos rfl]
        exact .cons (by decide) ((tkOpd_mays ho).app (tkBlk_mays (tkTr_mays th _ hth)))
theorem tkFnA_mays {f : Fn} (h : rFn f) : Mays (tkFnA f) :=
  .cons (by decide) (.cons (nm_may h.1) (.cons (by decide) ((tkSeq_mays fun s hs => .cons (nm_may (h.2.1 s hs)) .nil).app (.cons (by decide) (.cons (by decide) (tkTr_mays _ _ h.2.2))))))

def txP (l : List (TK × UInt8)) : List UInt8 := l.flatMap fun x => x.1.2.data.toList ++ [x.2]
theorem lexF_txP : ∀ (l : List (TK × UInt8)) (p : Nat), (∀ x ∈ l, mayK x.1 = true ∧ (x.2 = 32 ∨ x.2 = 10)) → ∃ us, lexF p (txP l) = .ok us ∧ sp us = l.map (·.1)
  | [], p, _ => ⟨[], rfl, rfl⟩
  | (x, c) :: l, p, h => by
    obtain ⟨hx, hc⟩ := h (x, c) (List.mem_cons_self ..)
    obtain ⟨us, h1, h2⟩ := lexF_txP l (p + x.2.size + 1) fun y hy => h y (List.mem_cons_of_mem _ hy)
    have e : txP ((x, c) :: l) = x.2.data.toList ++ (c :: txP l) := by simp [txP]
    have c1 : pInn c = false := by rcases hc with hc | hc <;> (simp only at hc; subst hc; decide)
    have c2 : cls c.toNat = 1 := by rcases hc with hc | hc <;> (simp only at hc; subst hc; decide)
    have := lexF_may ⟨x.1, x.2, 0⟩ hx (c :: txP l) (by simpa using c1) p
    rw [e, this, lexF_blank c _ c2, h1]
    exact ⟨_, rfl, by simp only [sp, List.map_append, List.map_cons, List.map_nil] at h2 ⊢; rw [h2]; rfl⟩

def fnP (f : Fn) : List (TK × UInt8) := (tkFnA f).map (fun x => (x, 32)) ++ [((2, ch 125), 10)]
def text (p : List Fn) : List UInt8 := txP (p.flatMap fnP)
theorem fnP_tk (p : List Fn) : (p.flatMap fnP).map (·.1) = tkProg p := by
  induction p with
  | nil => rfl
  | cons f p ih =>
    simp only [tkProg, List.flatMap_cons, List.map_append] at ih ⊢
    rw [ih]
    simp [fnP, tkFn, Function.comp_def]
structure rProg (p : List Fn) : Prop where
  fns : ∀ f ∈ p, rFn f
  cnt : cntP p ≤ 2000
theorem parse_text {p : List Fn} (h : rProg p) (hl : (text p).length ≤ 65536) : parse (text p) = .ok p := by
  obtain ⟨us, h1, h2⟩ := lexF_txP (p.flatMap fnP) 0 (by
    intro x hx
    obtain ⟨f, hf, hx⟩ := List.mem_flatMap.1 hx
    have := h.fns f hf
    unfold fnP at hx
    rcases List.mem_append.1 hx with hx | hx
    · obtain ⟨y, hy, rfl⟩ := List.mem_map.1 hx
      exact ⟨tkFnA_mays this y hy, .inl rfl⟩
    · simp only [List.mem_singleton] at hx
      subst hx
      exact ⟨by decide, .inr rfl⟩)
  rw [fnP_tk] at h2
  have e : lex (text p) = (us, 0, 0) := lex_of_ok hl h1
  unfold parse
  rw [e, if_pos rfl]
  exact read_rd h.fns h.cnt h2

end M
end Go.Proofs.YtkpmpnebmkeocaaGreatDoor
end
