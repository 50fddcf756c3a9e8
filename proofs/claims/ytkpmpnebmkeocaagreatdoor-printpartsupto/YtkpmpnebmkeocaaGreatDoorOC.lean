/-
  Plain facts on the text of programs: of two programs, and its lines. Nothing of the program is named here. No conditions.
-/
import Derived.Test.YtkpmpnebmkeocaaGreatDoorOB
set_option linter.unusedVariables false
section
namespace Go.Proofs.YtkpmpnebmkeocaaGreatDoor
namespace M

theorem txP_app (a b : List (TK × UInt8)) : txP (a ++ b) = txP a ++ txP b := by simp [txP]
theorem text_app (p q : List Fn) : text (p ++ q) = text p ++ text q := by
  unfold text; rw [List.flatMap_append, txP_app]
theorem cntP_app (p q : List Fn) : cntP (p ++ q) = cntP p + cntP q := by
  induction p with
  | nil => simp [cntP]
  | cons f p ih => simp only [List.cons_append, cntP, ih]; omega
theorem rProg_left {p q : List Fn} (h : rProg (p ++ q)) : rProg p :=
  ⟨fun f hf => h.fns f (List.mem_append_left _ hf), by have := h.cnt; rw [cntP_app] at this; omega⟩
theorem rProg_right {p q : List Fn} (h : rProg (p ++ q)) : rProg q :=
  ⟨fun f hf => h.fns f (List.mem_append_right _ hf), by have := h.cnt; rw [cntP_app] at this; omega⟩
theorem text_inj {p q : List Fn} (hp : rProg p) (hq : rProg q) (hl : (text p).length ≤ 65536) (h : text p = text q) : p = q := by
  have h1 := parse_text hp hl
  have h2 := parse_text hq (by rw [← h]; exact hl)
  rw [h, h2] at h1
  exact (Except.ok.inj h1).symm

def Ink (c : UInt8) : Prop := c ≠ 32 ∧ c ≠ 10
theorem ink_of {c : UInt8} (h : cls c.toNat ≠ 1) : Ink c := ⟨fun e => h (by subst e; decide), fun e => h (by subst e; decide)⟩
theorem tok_ink {x : TK} (h : mayK x = true) : x.2.data.toList ≠ [] ∧ ∀ c ∈ x.2.data.toList, Ink c := by
  unfold mayK may1 at h
  simp only at h
  split at h
  · simp only [wordB, Bool.and_eq_true, decide_eq_true_eq, beq_iff_eq] at h
    refine ⟨fun e => ?_, fun c hc => ?_⟩
    · have := h.2.1; rw [e] at this; simp [begB] at this
    · have h1 : cls c.toNat = 3 ∨ cls c.toNat = 4 ∨ cls c.toNat = 6 := of_decide_eq_true (ext0_all h.2.2 c hc)
      exact ink_of (by omega)
  · split at h
    · simp only [numB, Bool.and_eq_true, decide_eq_true_eq, beq_iff_eq] at h
      refine ⟨fun e => ?_, fun c hc => ?_⟩
      · have := h.1; rw [e] at this; simp at this
      · have h1 : cls c.toNat = 4 := of_decide_eq_true (ext0_all h.2.2 c hc)
        exact ink_of (by omega)
    · split at h
      · simp only [Bool.and_eq_true, beq_iff_eq] at h
        obtain ⟨h1, h2⟩ := h
        have e : x.2.data.toList.length = 1 := by rw [Array.length_toList]; exact h1
        generalize x.2.data.toList = l at e h2 ⊢
        match l, e, h2 with
        | [a], _, h2 =>
          simp only [begB, List.head?_cons, Option.any_some, beq_iff_eq] at h2
          refine ⟨by simp, fun c hc => ?_⟩
          simp only [List.mem_singleton] at hc
          subst hc
          exact ink_of (by omega)
      · cases h

def Gap : List UInt8 → Prop
  | a :: b :: l => (a = 32 → Ink b) ∧ Gap (b :: l)
  | _ => True
theorem gap_ink : ∀ (t r : List UInt8), (∀ c ∈ t, Ink c) → Gap r → Gap (t ++ r)
  | [], r, _, h => h
  | [a], [], _, _ => trivial
  | [a], b :: r, ht, h => ⟨fun e => absurd e (ht a (List.mem_cons_self ..)).1, h⟩
  | a :: b :: t, r, ht, h => ⟨fun e => absurd e (ht a (List.mem_cons_self ..)).1, gap_ink (b :: t) r (fun c hc => ht c (List.mem_cons_of_mem _ hc)) h⟩
theorem gap_txP : ∀ l : List (TK × UInt8), (∀ x ∈ l, mayK x.1 = true) → Gap (txP l)
  | [], _ => trivial
  | x :: l, h => by
    have e : txP (x :: l) = x.1.2.data.toList ++ (x.2 :: txP l) := by simp [txP]
    rw [e]
    have ih := gap_txP l fun y hy => h y (List.mem_cons_of_mem _ hy)
    refine gap_ink _ _ (tok_ink (h x (List.mem_cons_self ..))).2 ?_
    cases l with
    | nil => exact trivial
    | cons y l =>
      have e : txP (y :: l) = y.1.2.data.toList ++ (y.2 :: txP l) := by simp [txP]
      obtain ⟨h1, h2⟩ := tok_ink (h y (List.mem_cons_of_mem _ (List.mem_cons_self ..)))
      rw [e] at ih ⊢
      generalize y.1.2.data.toList = t at h1 h2 ih ⊢
      cases t with
      | nil => exact absurd rfl h1
      | cons c t => exact ⟨fun _ => h2 c (List.mem_cons_self ..), ih⟩
theorem gap_at : ∀ (l : List UInt8) (i : Nat) (c : UInt8), Gap l → l[i]? = some 32 → l[i + 1]? = some c → Ink c
  | [], i, c, _, h, _ => by simp at h
  | [a], i, c, _, _, h => by simp at h
  | a :: b :: l, 0, c, hg, h0, h1 => by
    simp only [List.getElem?_cons_zero, Option.some.injEq, List.getElem?_cons_succ] at h0 h1
    subst h1
    exact hg.1 h0
  | a :: b :: l, i + 1, c, hg, h0, h1 => gap_at (b :: l) i c hg.2 (by simpa using h0) (by simpa using h1)

theorem fnP_may {f : Fn} (h : rFn f) : ∀ x ∈ fnP f, mayK x.1 = true := by
  intro x hx
  unfold fnP at hx
  rcases List.mem_append.1 hx with hx | hx
  · obtain ⟨y, hy, rfl⟩ := List.mem_map.1 hx
    exact tkFnA_mays h y hy
  · simp only [List.mem_singleton] at hx
    subst hx
    decide
theorem text_gap {p : List Fn} (h : rProg p) : Gap (text p) := gap_txP _ fun x hx => by
  obtain ⟨f, hf, hx⟩ := List.mem_flatMap.1 hx
  exact fnP_may (h.fns f hf) x hx
theorem count_txP : ∀ l : List (TK × UInt8), (∀ x ∈ l, mayK x.1 = true) → (txP l).count 10 = (l.map (·.2)).count 10
  | [], _ => rfl
  | x :: l, h => by
    have e : txP (x :: l) = x.1.2.data.toList ++ (x.2 :: txP l) := by simp [txP]
    have h0 : x.1.2.data.toList.count 10 = 0 := List.count_eq_zero.2 fun hc => ((tok_ink (h x (List.mem_cons_self ..))).2 10 hc).2 rfl
    rw [e, List.count_append, h0, List.map_cons, List.count_cons, List.count_cons, count_txP l fun y hy => h y (List.mem_cons_of_mem _ hy)]
    omega
theorem text_count {p : List Fn} (h : rProg p) : (text p).count 10 = p.length := by
  obtain ⟨hf, -⟩ := h
  induction p with
  | nil => rfl
  | cons f p ih =>
    have e : text (f :: p) = txP (fnP f) ++ text p := by unfold text; rw [List.flatMap_cons, txP_app]
    rw [e, List.count_append, ih fun g hg => hf g (List.mem_cons_of_mem _ hg), count_txP _ (fnP_may (hf f (List.mem_cons_self ..)))]
    have e2 : (fnP f).map (·.2) = List.replicate (tkFnA f).length 32 ++ [10] := by
      simp [fnP, Function.comp_def, List.map_const']
    rw [e2, List.count_append, List.count_replicate, List.length_cons]
    simp
    omega
theorem text_last {p : List Fn} (h : p ≠ []) : ∃ l, text p = l ++ [10] := by
  obtain ⟨q, f, rfl⟩ : ∃ q f, p = q ++ [f] := ⟨p.dropLast, p.getLast h, (List.dropLast_concat_getLast h).symm⟩
  have e : text (q ++ [f]) = text q ++ (txP ((tkFnA f).map fun x => (x, 32)) ++ ((ch 125).data.toList ++ [10])) := by
    rw [text_app]
    unfold text fnP
    simp [txP]
  rw [e]
  exact ⟨_, by rw [← List.append_assoc, ← List.append_assoc]⟩

end M
end Go.Proofs.YtkpmpnebmkeocaaGreatDoor
end
section
namespace Go.Proofs.YtkpmpnebmkeocaaGreatDoor
namespace M

def tx (l : List TK) : List ByteArray := l.map (·.2)
theorem tx_app (a b : List TK) : tx (a ++ b) = tx a ++ tx b := by simp [tx]
theorem tx_cons (x : TK) (b : List TK) : tx (x :: b) = x.2 :: tx b := rfl
def sgnT (n : Int) : ByteArray := if n < 0 then ⟨(45 :: dig (-n).toNat).toArray⟩ else digT n
def laidO (o : Opd) : List ByteArray :=
  if o.k = 2 then [sgnT o.n]
  else if o.k = 3 then [ch 38, o.s]
  else if o.k = 4 then [o.s]
  else if o = ⟨0, 0, em⟩ then [kNull]
  else if o = ⟨1, 0, em⟩ then [kFalse]
  else if o = ⟨1, 1, em⟩ then [kTrue]
  else [em]
def laidAt (a : List Opd) (i : Nat) : List ByteArray :=
  match a[i]? with
  | none => []
  | some o => laidO o
theorem laidO_right {o : Opd} (h : rOpd o) : laidO o = tx (tkOpd o) := by
  obtain ⟨k, v, s⟩ := o
  rcases h with (ho | ho | ho) | ⟨hk, h0, h1, hs⟩ | ⟨hk, h0, hs⟩
  · cases ho; rfl
  · cases ho; decide
  · cases ho; decide
  · simp only at hk h0
    subst hk
    show [sgnT v] = [digT v]
    unfold sgnT
    rw [if_neg (by omega)]
  · simp only at hk
    rcases hk with hk | hk
    · subst hk; rfl
    · subst hk; rfl

def laidMore (l : List (List ByteArray)) : List ByteArray := l.flatMap fun x => ch 44 :: x
def laidSeq : List (List ByteArray) → List ByteArray
  | [] => []
  | x :: l => x ++ laidMore l
theorem laidMore_right {α : Type} {tk : α → List TK} : ∀ l : List α, laidMore (l.map fun o => tx (tk o)) = tx (tkMore tk l)
  | [] => rfl
  | o :: l => by
    have e : tkMore tk (o :: l) = (2, ch 44) :: (tk o ++ tkMore tk l) := by simp [tkMore]
    rw [e, tx_cons, tx_app, ← laidMore_right l]
    simp [laidMore]
theorem laidSeq_right {α : Type} {tk : α → List TK} (l : List α) : laidSeq (l.map fun o => tx (tk o)) = tx (tkSeq tk l) := by
  cases l with
  | nil => rfl
  | cons o l =>
    show tx (tk o) ++ laidMore (l.map fun o => tx (tk o)) = tx (tk o ++ tkMore tk l)
    rw [tx_app, laidMore_right]
def laidOps (a : List Opd) : List ByteArray := ch 40 :: (laidSeq ((List.range a.length).map (laidAt a)) ++ [ch 41])
def laidProp (pr : List ByteArray) (a : List Opd) (i : Nat) : List ByteArray := pr.getD i em :: ch 58 :: laidAt a i
def laidNew (pr : List ByteArray) (a : List Opd) : List ByteArray :=
  ch 123 :: (laidSeq ((List.range pr.length).map (laidProp pr a)) ++ ch 125 :: kProto :: laidAt a pr.length)
def laidVal (op : Int) (y p : ByteArray) (a : List Opd) (pr : List ByteArray) : List ByteArray :=
  if op = 0 then laidAt a 0
  else if op = 1 then laidAt a 0 ++ p :: laidAt a 1
  else if op = 2 then [y, ch 46, p]
  else if op = 7 then [kIn]
  else if op = 4 then kNew :: laidNew pr a
  else if op = 5 then kCall :: p :: laidOps a
  else if op = 6 then y :: laidOps a
  else []
theorem laidAt_mem {a : List Opd} (h : ∀ o ∈ a, rOpd o) (i : Nat) (hi : i < a.length) : laidAt a i = tx (tkOpd (opd a i)) := by
  have e : a[i]? = some a[i] := List.getElem?_eq_getElem hi
  unfold laidAt
  rw [e]
  have e2 : opd a i = a[i] := by unfold opd; rw [List.getD_eq_getElem?_getD, e]; rfl
  rw [e2]
  exact laidO_right (h _ (List.getElem_mem hi))
theorem laidOps_right {a : List Opd} (h : ∀ o ∈ a, rOpd o) : laidOps a = tx (tkOps a) := by
  have e : (List.range a.length).map (laidAt a) = a.map fun o => tx (tkOpd o) := by
    apply List.ext_getElem
    · simp
    · intro i h1 h2
      simp only [List.length_map, List.length_range] at h1
      simp only [List.getElem_map, List.getElem_range]
      have e : a[i]? = some a[i] := List.getElem?_eq_getElem h1
      unfold laidAt
      rw [e]
      exact laidO_right (h _ (List.getElem_mem h1))
  unfold laidOps tkOps
  rw [e, laidSeq_right, tx_cons, tx_app]; rfl
theorem laidNew_right {pr : List ByteArray} {l : List Opd} {o : Opd} (hl : pr.length = l.length) (hq : ∀ q ∈ l, rOpd q) (ho : rOpd o) : laidNew pr (l ++ [o]) = tx (tkNew pr l o) := by
  have hall : ∀ q ∈ l ++ [o], rOpd q := fun q h => by
    rcases List.mem_append.1 h with h | h
    · exact hq q h
    · simp only [List.mem_singleton] at h; subst h; exact ho
  have e : (List.range pr.length).map (laidProp pr (l ++ [o])) = (pr.zip l).map fun q => tx (tkProp q) := by
    apply List.ext_getElem
    · simp [hl]
    · intro i h1 h2
      simp only [List.length_map, List.length_range] at h1
      simp only [List.getElem_map, List.getElem_range, List.getElem_zip]
      have hi : i < l.length := by omega
      unfold laidProp tkProp
      rw [laidAt_mem hall i (by simp; omega), tx_cons, tx_cons]
      have e1 : pr.getD i em = pr[i] := by rw [List.getD_eq_getElem?_getD, List.getElem?_eq_getElem h1]; rfl
      have e2 : opd (l ++ [o]) i = l[i] := by
        unfold opd
        rw [List.getD_eq_getElem?_getD, List.getElem?_append_left hi, List.getElem?_eq_getElem hi]; rfl
      rw [e1, e2]
  have e3 : laidAt (l ++ [o]) pr.length = tx (tkOpd o) := by
    rw [laidAt_mem hall _ (by simp; omega)]
    have : opd (l ++ [o]) pr.length = o := by rw [hl]; simp [opd]
    rw [this]
  unfold laidNew tkNew
  rw [e, e3, laidSeq_right, tx_cons, tx_app, tx_cons, tx_cons]
theorem laidVal_right {op : Int} {y p : ByteArray} {a : List Opd} {pr : List ByteArray} (hv : rVal op y p a pr) : laidVal op y p a pr = tx (tkVal op y p a pr) := by
  rcases hv with ⟨rfl, rfl, rfl, rfl, o, rfl, ho⟩ | ⟨rfl, rfl, hp, rfl, o, q, rfl, ho, hq⟩ | ⟨rfl, hy, hp, rfl, rfl⟩ | ⟨rfl, rfl, rfl, hpr, l, o, rfl, hl, hq, ho⟩ | ⟨rfl, rfl, hp, rfl, ha⟩ | ⟨rfl, hy, rfl, rfl, ha⟩ | ⟨rfl, rfl, rfl, rfl, rfl⟩
  · exact laidO_right ho
  · show laidO o ++ p :: laidO q = tx (tkOpd o ++ (2, p) :: tkOpd q)
    rw [tx_app, tx_cons, laidO_right ho, laidO_right hq]
  · rfl
  · have e1 : (l ++ [o]).take pr.length = l := by rw [hl]; exact List.take_left
    have e2 : opd (l ++ [o]) pr.length = o := by rw [hl]; simp [opd]
    show kNew :: laidNew pr (l ++ [o]) = tx ((0, kNew) :: tkNew pr ((l ++ [o]).take pr.length) (opd (l ++ [o]) pr.length))
    rw [e1, e2, tx_cons, laidNew_right hl hq ho]
  · show kCall :: p :: laidOps a = tx ((0, kCall) :: (0, p) :: tkOps a)
    rw [tx_cons, tx_cons, laidOps_right ha]
  · show y :: laidOps a = tx ((0, y) :: tkOps a)
    rw [tx_cons, laidOps_right ha]
  · rfl

def laidBlk (l : List ByteArray) : List ByteArray := ch 123 :: (l ++ [ch 125])
def laidTr : Tr → List ByteArray
  | .nil => []
  | .cons op x y p a pr th el nx =>
    (if op = 9 ∨ op = 10 then (if op = 9 then kIf else kWhile) :: (laidAt a 0 ++ (laidBlk (laidTr th) ++ (if el.isNil = true then [] else kElse :: laidBlk (laidTr el))))
     else if op = 8 ∨ op = 11 then (if op = 8 then kOut else kReturn) :: (laidAt a 0 ++ [ch 59])
     else if op = 3 then x :: ch 46 :: p :: ch 61 :: (laidAt a 0 ++ [ch 59])
     else x :: ch 61 :: (laidVal op y p a pr ++ [ch 59])) ++ laidTr nx
theorem tx_blk (l : List TK) : tx (tkBlk l) = laidBlk (tx l) := by
  unfold tkBlk laidBlk
  rw [tx_cons, tx_app]; rfl
theorem laidTr_right : ∀ (t : Tr) (k : Nat), rTr t k → laidTr t = tx (tkTr t)
  | .nil, _, _ => rfl
  | .cons op x y p a pr th el nx, k, ⟨hs, hnx⟩ => by
    rw [tkTr, laidTr, tx_app, laidTr_right nx k hnx]
    congr 1
    rcases hs with ⟨hp, rfl, rfl⟩ | ⟨hop, rfl, rfl, rfl, rfl, ⟨o, rfl, ho⟩, hk, hth, hel⟩
    · rcases hp with ⟨hx, hv⟩ | ⟨rfl, hx, rfl, hp, rfl, o, rfl, ho⟩ | ⟨hop, rfl, rfl, rfl, rfl, o, rfl, ho⟩
      · obtain ⟨n3, n8, n11, n9, n10⟩ := rVal_op hv
        rw [if_neg (by omega), if_neg (by omega), if_neg n3, if_neg n9, if_neg n10, laidVal_right hv]
        unfold tkPlain
        rw [if_neg n3, if_neg n8, if_neg n11, tx_app, tx_cons, tx_cons]; rfl
      · rw [if_neg (by decide), if_neg (by decide), if_pos rfl, if_neg (by decide), if_neg (by decide), tx_app]
        show x :: ch 46 :: p :: ch 61 :: (laidO o ++ [ch 59]) = x :: ch 46 :: p :: ch 61 :: (tx (tkOpd o) ++ [ch 59])
        rw [laidO_right ho]
      · rcases hop with rfl | rfl
        · rw [if_neg (by decide), if_pos (by decide), if_pos rfl, if_neg (by decide), if_neg (by decide), tx_app]
          show kOut :: (laidO o ++ [ch 59]) = kOut :: (tx (tkOpd o) ++ [ch 59])
          rw [laidO_right ho]
        · rw [if_neg (by decide), if_pos (by decide), if_neg (by decide), if_neg (by decide), if_neg (by decide), tx_app]
          show kReturn :: (laidO o ++ [ch 59]) = kReturn :: (tx (tkOpd o) ++ [ch 59])
          rw [laidO_right ho]
    · rcases hop with rfl | ⟨rfl, rfl⟩
      · rw [if_pos (by decide), if_pos rfl, if_pos rfl, tx_cons, tx_app, tx_app, tx_blk, laidTr_right th _ hth]
        show kIf :: (laidO o ++ _) = kIf :: (tx (tkOpd o) ++ _)
        rw [laidO_right ho]
        split
        · rfl
        · rw [tx_cons, tx_blk, laidTr_right el _ hel]
      · rw [if_pos (by decide), if_neg (by decide), if_pos (by rfl), if_neg (by decide), if_pos rfl, tx_cons, tx_app, tx_blk, laidTr_right th _ hth]
        show kWhile :: (laidO o ++ (_ ++ [])) = kWhile :: (tx (tkOpd o) ++ _)
        rw [laidO_right ho, List.append_nil]

end M
end Go.Proofs.YtkpmpnebmkeocaaGreatDoor
end
section
namespace Go.Proofs.YtkpmpnebmkeocaaGreatDoor
namespace M

def putM (s : Option (List UInt8)) (t : ByteArray) : Option (List UInt8) :=
  match s with
  | none => none
  | some b => if b.length + t.size + 1 ≤ 65536 then some (b ++ t.data.toList ++ [32]) else none
def putsM (s : Option (List UInt8)) (l : List ByteArray) : Option (List UInt8) := l.foldl putM s
def bytesB (l : List ByteArray) : List UInt8 := l.flatMap fun t => t.data.toList ++ [32]
theorem putsM_none (l : List ByteArray) : putsM none l = none := by
  induction l with
  | nil => rfl
  | cons t l ih => exact ih
theorem putsM_app (s : Option (List UInt8)) (a b : List ByteArray) : putsM s (a ++ b) = putsM (putsM s a) b := by simp [putsM]
theorem bytesB_cons (t : ByteArray) (l : List ByteArray) : bytesB (t :: l) = t.data.toList ++ [32] ++ bytesB l := by simp [bytesB]
theorem list_size (t : ByteArray) : t.data.toList.length = t.size := by rw [Array.length_toList]; rfl
theorem putsM_some : ∀ (l : List ByteArray) (b : List UInt8), b.length ≤ 65536 → putsM (some b) l = if b.length + (bytesB l).length ≤ 65536 then some (b ++ bytesB l) else none
  | [], b, h => by
    show some b = _
    rw [if_pos (by simpa [bytesB] using h)]
    simp [bytesB]
  | t :: l, b, h => by
    have e : (bytesB (t :: l)).length = t.size + 1 + (bytesB l).length := by rw [bytesB_cons, List.length_append, List.length_append, list_size]; rfl
    show putsM (putM (some b) t) l = _
    unfold putM
    simp only
    by_cases hc : b.length + t.size + 1 ≤ 65536
    · have e2 : (b ++ t.data.toList ++ [32]).length = b.length + t.size + 1 := by rw [List.length_append, List.length_append, list_size]; rfl
      rw [if_pos hc, putsM_some l _ (by omega), e2, e]
      by_cases hd : b.length + t.size + 1 + (bytesB l).length ≤ 65536
      · rw [if_pos hd, if_pos (by omega), bytesB_cons]; simp
      · rw [if_neg hd, if_neg (by omega)]
    · rw [if_neg hc, putsM_none, if_neg (by omega)]

def nlM (s : Option (List UInt8)) : Option (List UInt8) := s.map fun b => b.dropLast ++ [10]
def laidFn (f : Fn) : List ByteArray := kFun :: f.name :: ch 40 :: (laidSeq (f.ps.map fun s => [s]) ++ ch 41 :: laidBlk (laidTr f.body))
def layFn (s : Option (List UInt8)) (f : Fn) : Option (List UInt8) := nlM (putsM s (laidFn f))
def layP (s : Option (List UInt8)) (p : List Fn) : Option (List UInt8) := p.foldl layFn s
theorem laidFn_right {f : Fn} (h : rFn f) : laidFn f = tx (tkFnA f) ++ [ch 125] := by
  have e : (f.ps.map fun s => [s]) = f.ps.map fun s => tx [((0 : Int), s)] := rfl
  unfold laidFn tkFnA laidBlk
  rw [e, laidSeq_right (tk := fun s => [(0, s)]), laidTr_right _ _ h.2.2, tx_cons, tx_cons, tx_cons, tx_app, tx_cons, tx_cons]
  simp
theorem txP_bytes (l : List TK) : txP (l.map fun x => (x, 32)) = bytesB (tx l) := by
  induction l with
  | nil => rfl
  | cons x l ih =>
    have e : txP ((x :: l).map fun x => (x, (32 : UInt8))) = x.2.data.toList ++ [32] ++ txP (l.map fun x => (x, 32)) := by simp [txP]
    rw [e, ih, tx_cons, bytesB_cons]
theorem bytesB_app (a b : List ByteArray) : bytesB (a ++ b) = bytesB a ++ bytesB b := by simp [bytesB]
theorem text_cons (f : Fn) (p : List Fn) : text (f :: p) = bytesB (tx (tkFnA f)) ++ [125, 10] ++ text p := by
  unfold text
  rw [List.flatMap_cons, txP_app]
  congr 1
  unfold fnP
  rw [txP_app, txP_bytes]
  rfl
theorem layFn_right {f : Fn} (h : rFn f) {b : List UInt8} (hb : b.length ≤ 65536) :
    layFn (some b) f = if b.length + (bytesB (tx (tkFnA f)) ++ [125, 10]).length ≤ 65536 then some (b ++ (bytesB (tx (tkFnA f)) ++ [125, 10])) else none := by
  have e : bytesB (tx (tkFnA f) ++ [ch 125]) = bytesB (tx (tkFnA f)) ++ [125, 32] := by rw [bytesB_app]; rfl
  unfold layFn
  rw [laidFn_right h, putsM_some _ _ hb, e]
  have el : (bytesB (tx (tkFnA f)) ++ [125, 32]).length = (bytesB (tx (tkFnA f)) ++ [(125 : UInt8), 10]).length := by simp
  rw [el]
  split
  · show some ((b ++ (bytesB (tx (tkFnA f)) ++ [125, 32])).dropLast ++ [10]) = _
    have e2 : b ++ (bytesB (tx (tkFnA f)) ++ [125, 32]) = b ++ bytesB (tx (tkFnA f)) ++ [125] ++ [32] := by simp
    rw [e2, List.dropLast_concat]
    simp
  · rfl
theorem layP_none (p : List Fn) : layP none p = none := by
  induction p with
  | nil => rfl
  | cons f p ih =>
    show layP (nlM (putsM none (laidFn f))) p = none
    rw [putsM_none]; exact ih
theorem layP_right : ∀ (p : List Fn) (b : List UInt8), (∀ f ∈ p, rFn f) → b.length ≤ 65536 → layP (some b) p = if b.length + (text p).length ≤ 65536 then some (b ++ text p) else none
  | [], b, _, h => by
    show some b = _
    rw [if_pos (by simpa [text, txP] using h)]
    simp [text, txP]
  | f :: p, b, hp, h => by
    show layP (layFn (some b) f) p = _
    rw [layFn_right (hp f (List.mem_cons_self ..)) h, text_cons]
    generalize bytesB (tx (tkFnA f)) ++ [125, 10] = a
    by_cases hc : b.length + a.length ≤ 65536
    · rw [if_pos hc, layP_right p _ (fun g hg => hp g (List.mem_cons_of_mem _ hg)) (by rw [List.length_append]; exact hc)]
      simp only [List.length_append]
      by_cases hd : b.length + a.length + (text p).length ≤ 65536
      · rw [if_pos hd, if_pos (by omega), List.append_assoc]
      · rw [if_neg hd, if_neg (by omega)]
    · rw [if_neg hc, layP_none, if_neg (by rw [List.length_append]; omega)]

def printed (p : List Fn) : Option (List UInt8) :=
  match layP (some []) p with
  | none => none
  | some b =>
    match parse b with
    | .ok q => if p = q then some b else none
    | .error _ => none
theorem layP_text {p : List Fn} (h : rProg p) : layP (some []) p = if (text p).length ≤ 65536 then some (text p) else none := by
  rw [layP_right p [] h.fns (Nat.zero_le _)]
  simp
theorem printed_yes {p : List Fn} (h : rProg p) (hl : (text p).length ≤ 65536) : printed p = some (text p) := by
  unfold printed
  rw [layP_text h, if_pos hl]
  simp only [parse_text h hl, if_true]
theorem printed_no {p : List Fn} (h : ¬ (rProg p ∧ (text p).length ≤ 65536)) : printed p = none := by
  unfold printed
  cases e : layP (some []) p with
  | none => rfl
  | some b =>
    simp only
    cases hp : parse b with
    | error e => rfl
    | ok q =>
      simp only
      by_cases hq : p = q
      · subst hq
        have r := (parse_right hp).1
        rw [layP_text r] at e
        split at e
        · rename_i hl; exact absurd ⟨r, hl⟩ h
        · cases e
      · rw [if_neg hq]

end M
end Go.Proofs.YtkpmpnebmkeocaaGreatDoor
end
