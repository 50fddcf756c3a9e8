/-
  Lists that rise by a key, as mathematics: the document's Set and Put, one step behind the other; where the program finds a key, and how it puts there. Nothing of the program's code is walked here. No conditions.
-/
import Derived.Test.YtbaaeobdjiglgaaGreatT1
set_option linter.unusedVariables false
namespace Go.Proofs.YtbaaeobdjiglgaaGreat
namespace M
section
variable {κ ν : Type} [DecidableEq κ] (o : Key κ)
/-- the document's loop: whether it is laid, what there is, what is still to come -/
def putLoop (k : κ) (v : ν) : Bool → List (κ × ν) → List (κ × ν) → List (κ × ν)
  | true, acc, [] => acc
  | false, acc, [] => acc ++ [(k, v)]
  | true, acc, y :: r => if y.1 = k then putLoop k v true acc r else putLoop k v true (acc ++ [y]) r
  | false, acc, y :: r => if o.lt y.1 k then putLoop k v false (acc ++ [y]) r else if y.1 = k then putLoop k v true (acc ++ [(k, v)]) r else putLoop k v true (acc ++ [(k, v)] ++ [y]) r
theorem putLoop_true {k : κ} {v : ν} : ∀ {r acc : List (κ × ν)}, (∀ z ∈ r, z.1 ≠ k) → putLoop o k v true acc r = acc ++ r
  | [], acc, _ => by simp [putLoop]
  | y :: r, acc, h => by
    unfold putLoop
    rw [if_neg (h y List.mem_cons_self), putLoop_true fun z hz => h z (List.mem_cons_of_mem _ hz), List.append_assoc]; rfl
theorem putLoop_false {k : κ} {v : ν} : ∀ {l acc : List (κ × ν)}, RisK o l → putLoop o k v false acc l = acc ++ putK o k v l
  | [], acc, _ => rfl
  | y :: r, acc, h => by
    have a := List.pairwise_cons.1 h
    unfold putLoop putK
    cases hl : o.lt y.1 k with
    | true =>
      rw [if_pos rfl, if_neg (fun e => o.ne hl e.symm), if_neg (by rw [o.asymm hl]; decide), putLoop_false a.2, List.append_assoc]; rfl
    | false =>
      rw [if_neg (by decide)]
      by_cases e : y.1 = k
      · rw [if_pos e, if_pos e.symm, putLoop_true o fun z hz q => o.ne (a.1 z hz) (by rw [q]; exact e), List.append_assoc]; rfl
      · have hl2 : o.lt k y.1 = true := by
          cases h2 : o.lt k y.1 with
          | true => rfl
          | false => exact absurd (o.tri hl h2) e
        rw [if_neg e, if_neg (fun q => e q.symm), if_pos hl2, putLoop_true o fun z hz q => by
          have := o.trans hl2 (a.1 z hz)
          rw [q, o.irrefl] at this; cases this]
        simp
/-- where the program finds a key: the first one, or where it would stand -/
def placeK (k : κ) : Nat → Nat → List (κ × ν) → Nat × Bool
  | _, w, [] => (w, false)
  | i, w, y :: r => if y.1 = k then (i, true) else if o.lt y.1 k then placeK k (i + 1) (i + 1) r else placeK k (i + 1) w r
theorem placeK_get {k : κ} : ∀ {l : List (κ × ν)} {i w : Nat}, (placeK o k i w l).2 = (getK l k).isSome ∧ ((placeK o k i w l).2 = true → ∃ p, (placeK o k i w l).1 = i + p ∧ ∃ h : p < l.length, l[p].1 = k ∧ getK l k = some l[p].2)
  | [], i, w => ⟨rfl, fun h => by cases h⟩
  | y :: r, i, w => by
    unfold placeK getK
    by_cases e : y.1 = k
    · rw [if_pos e, if_pos e]
      exact ⟨rfl, fun _ => ⟨0, rfl, by simp, e, rfl⟩⟩
    · rw [if_neg e, if_neg e]
      have step : ∀ w', (placeK o k (i + 1) w' r).2 = (getK r k).isSome ∧ ((placeK o k (i + 1) w' r).2 = true → ∃ p, (placeK o k (i + 1) w' r).1 = i + p ∧ ∃ h : p < (y :: r).length, (y :: r)[p].1 = k ∧ getK r k = some (y :: r)[p].2) := fun w' => by
        obtain ⟨h1, h2⟩ := placeK_get (k := k) (l := r) (i := i + 1) (w := w')
        refine ⟨h1, fun h => ?_⟩
        obtain ⟨p, hp, hlt, hk, hg⟩ := h2 h
        exact ⟨p + 1, by rw [hp]; omega, by simpa using hlt, hk, hg⟩
      split
      · exact step _
      · exact step _
/-- in a list that rises: all ahead are below, all behind are not -/
theorem placeK_rise {k : κ} : ∀ {l : List (κ × ν)} {i w : Nat}, RisK o l → w ≤ i → (placeK o k i w l).2 = false →
    ((placeK o k i w l).1 = w ∧ (∀ z ∈ l, o.lt k z.1 = true)) ∨ ∃ p, (placeK o k i w l).1 = i + p + 1 ∧ p < l.length ∧ (∀ q (h : q < l.length), q ≤ p → o.lt l[q].1 k = true) ∧ ∀ q (h : q < l.length), p < q → o.lt k l[q].1 = true
  | [], i, w, _, _, _ => .inl ⟨rfl, fun z hz => by cases hz⟩
  | y :: r, i, w, h, hw, hf => by
    have a := List.pairwise_cons.1 h
    unfold placeK at hf ⊢
    by_cases e : y.1 = k
    · rw [if_pos e] at hf; cases hf
    · rw [if_neg e] at hf ⊢
      cases hl : o.lt y.1 k with
      | true =>
        rw [hl, if_pos rfl] at hf
        rw [if_pos rfl]
        refine .inr ?_
        rcases placeK_rise a.2 (Nat.le_refl _) hf with ⟨h1, h2⟩ | ⟨p, h1, hp, h2, h3⟩
        · refine ⟨0, h1, by simp, fun q hq hq0 => ?_, fun q hq hq0 => ?_⟩
          · have : q = 0 := by omega
            subst this; exact hl
          · obtain ⟨q, rfl⟩ : ∃ n, q = n + 1 := ⟨q - 1, by omega⟩
            exact h2 _ (List.getElem_mem (by simpa using hq))
        · refine ⟨p + 1, by rw [h1]; omega, by simpa using hp, fun q hq hqp => ?_, fun q hq hqp => ?_⟩
          · cases q with
            | zero => exact hl
            | succ q => exact h2 q (by simpa using hq) (by omega)
          · obtain ⟨q, rfl⟩ : ∃ n, q = n + 1 := ⟨q - 1, by omega⟩
            exact h3 q (by simpa using hq) (by omega)
      | false =>
        rw [hl, if_neg (by decide)] at hf
        rw [if_neg (by decide)]
        have hl2 : o.lt k y.1 = true := by
          cases h2 : o.lt k y.1 with
          | true => rfl
          | false => exact absurd (o.tri hl h2) e
        have hall : ∀ z ∈ r, o.lt k z.1 = true := fun z hz => o.trans hl2 (a.1 z hz)
        rcases placeK_rise a.2 (Nat.le_succ_of_le hw) hf with ⟨h1, h2⟩ | ⟨p, h1, hp, h2, h3⟩
        · refine .inl ⟨h1, fun z hz => ?_⟩
          rcases List.mem_cons.1 hz with q | q
          · rw [q]; exact hl2
          · exact hall z q
        · have c1 := h2 0 (by omega) (Nat.zero_le _)
          have c2 := hall _ (List.getElem_mem (show 0 < r.length by omega))
          rw [o.asymm c2] at c1; cases c1
/-- put where it stands -/
theorem set_putK {k : κ} {v : ν} : ∀ {l : List (κ × ν)} {p : Nat}, RisK o l → (hp : p < l.length) → l[p].1 = k → l.set p (k, v) = putK o k v l
  | [], p, _, hp, _ => absurd hp (by simp)
  | y :: r, 0, _, _, e => by
    have e' : y.1 = k := e
    unfold putK
    rw [if_pos e'.symm]; rfl
  | y :: r, p + 1, h, hp, e => by
    have a := List.pairwise_cons.1 h
    have hp' : p < r.length := by simpa using hp
    have e' : r[p].1 = k := e
    have hl : o.lt y.1 k = true := by rw [← e']; exact a.1 _ (List.getElem_mem hp')
    unfold putK
    rw [if_neg (fun h => o.ne hl h.symm), if_neg (by rw [o.asymm hl]; decide), List.set_cons_succ, set_putK a.2 hp' e']
/-- put where it would stand -/
theorem ins_putK {k : κ} {v : ν} : ∀ {l : List (κ × ν)} {p : Nat}, p ≤ l.length → (∀ i (h : i < l.length), i < p → o.lt l[i].1 k = true) → (∀ i (h : i < l.length), p ≤ i → o.lt k l[i].1 = true) → l.take p ++ (k, v) :: l.drop p = putK o k v l
  | [], 0, _, _, _ => rfl
  | [], p + 1, hp, _, _ => absurd hp (by simp)
  | y :: r, 0, _, _, h2 => by
    have hl : o.lt k y.1 = true := h2 0 (by simp) (Nat.le_refl _)
    unfold putK
    rw [if_neg (o.ne hl), if_pos hl]; rfl
  | y :: r, p + 1, hp, h1, h2 => by
    have hl : o.lt y.1 k = true := h1 0 (by simp) (by omega)
    unfold putK
    rw [if_neg (fun h => o.ne hl h.symm), if_neg (by rw [o.asymm hl]; decide), List.take_succ_cons, List.drop_succ_cons, List.cons_append, ins_putK (by simpa using hp) (fun i hi hip => h1 (i + 1) (by simpa using hi) (by omega)) (fun i hi hip => h2 (i + 1) (by simpa using hi) (by omega))]
/-- the program's put, of a list that rises -/
theorem put_place {k : κ} {v : ν} {l : List (κ × ν)} (h : RisK o l) : (if (placeK o k 0 0 l).2 then l.set (placeK o k 0 0 l).1 (k, v) else l.take (placeK o k 0 0 l).1 ++ (k, v) :: l.drop (placeK o k 0 0 l).1) = putK o k v l := by
  cases ht : (placeK o k 0 0 l).2 with
  | true =>
    obtain ⟨p, hp, hlt, hk, _⟩ := placeK_get (o := o) (k := k) (l := l) (i := 0) (w := 0) |>.2 ht
    rw [if_pos rfl, hp, Nat.zero_add]
    exact set_putK o h hlt hk
  | false =>
    rw [if_neg (by decide)]
    rcases placeK_rise o h (Nat.le_refl 0) ht with ⟨h1, h2⟩ | ⟨p, h1, hp, h2, h3⟩
    · rw [h1]
      exact ins_putK o (Nat.zero_le _) (fun i hi hip => absurd hip (Nat.not_lt_zero _)) (fun i hi _ => h2 _ (List.getElem_mem hi))
    · rw [h1, Nat.zero_add]
      exact ins_putK o (by omega) (fun i hi hip => h2 i hi (by omega)) (fun i hi hip => h3 i hi (by omega))
end
end M
end Go.Proofs.YtbaaeobdjiglgaaGreat
