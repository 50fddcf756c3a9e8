/-
  Lists that rise by a key, as mathematics: what stands at a key, what is put there, two of them side by side. Nothing of the program's code is walked here. No conditions.
-/
set_option linter.unusedVariables false
namespace Go.Proofs.YtbaaeobdjiglgaaGreat
namespace M
structure Key (κ : Type) where
  lt : κ → κ → Bool
  irrefl : ∀ a, lt a a = false
  trans : ∀ {a b c}, lt a b = true → lt b c = true → lt a c = true
  tri : ∀ {a b}, lt a b = false → lt b a = false → a = b
theorem Key.ne {κ : Type} (o : Key κ) {a b : κ} (h : o.lt a b = true) : a ≠ b := fun e => by subst e; rw [o.irrefl] at h; cases h
theorem Key.asymm {κ : Type} (o : Key κ) {a b : κ} (h : o.lt a b = true) : o.lt b a = false := by
  cases h2 : o.lt b a with
  | false => rfl
  | true => have := o.trans h h2; rw [o.irrefl] at this; cases this
section
variable {κ ν : Type} [DecidableEq κ] (o : Key κ)
def RisK (l : List (κ × ν)) : Prop := l.Pairwise fun x y => o.lt x.1 y.1 = true
def getK : List (κ × ν) → κ → Option ν
  | [], _ => none
  | x :: r, k => if x.1 = k then some x.2 else getK r k
theorem getK_none {l : List (κ × ν)} {k : κ} (h : ∀ x ∈ l, x.1 ≠ k) : getK l k = none := by
  induction l with
  | nil => rfl
  | cons x r ih =>
    unfold getK
    rw [if_neg (h x List.mem_cons_self), ih fun y hy => h y (List.mem_cons_of_mem _ hy)]
theorem getK_mem {l : List (κ × ν)} {k : κ} {v : ν} (h : getK l k = some v) : (k, v) ∈ l := by
  induction l with
  | nil => cases h
  | cons x r ih =>
    unfold getK at h
    split at h
    · rename_i e
      obtain ⟨a, b⟩ := x
      simp only [Option.some.injEq] at h
      simp only at e
      subst e h
      exact List.mem_cons_self
    · exact List.mem_cons_of_mem _ (ih h)
theorem getK_of_mem {l : List (κ × ν)} {k : κ} {v : ν} (hl : RisK o l) (h : (k, v) ∈ l) : getK l k = some v := by
  induction l with
  | nil => cases h
  | cons x r ih =>
    have a := List.pairwise_cons.1 hl
    unfold getK
    rcases List.mem_cons.1 h with e | e
    · rw [← e, if_pos rfl]
    · rw [if_neg (o.ne (a.1 _ e)), ih a.2 e]
theorem risK_ext {l m : List (κ × ν)} (hl : RisK o l) (hm : RisK o m) (h : ∀ k, getK l k = getK m k) : l = m := by
  induction l generalizing m with
  | nil =>
    cases m with
    | nil => rfl
    | cons y r => have := h y.1; unfold getK at this; rw [if_pos rfl] at this; cases this
  | cons x l ih =>
    cases m with
    | nil => have := h x.1; unfold getK at this; rw [if_pos rfl] at this; cases this
    | cons y m =>
      have a := List.pairwise_cons.1 hl
      have b := List.pairwise_cons.1 hm
      have hx : getK (y :: m) x.1 = some x.2 := by rw [← h]; unfold getK; rw [if_pos rfl]
      have hy : getK (x :: l) y.1 = some y.2 := by rw [h]; unfold getK; rw [if_pos rfl]
      have e : x = y := by
        rcases List.mem_cons.1 (getK_mem hx) with e | e
        · exact e
        · rcases List.mem_cons.1 (getK_mem hy) with f | f
          · exact f.symm
          · have := o.asymm (b.1 _ e); rw [a.1 _ f] at this; cases this
      subst e
      rw [ih a.2 b.2 fun k => ?_]
      have := h k
      unfold getK at this
      by_cases hk : x.1 = k
      · subst hk
        rw [getK_none fun z hz => (o.ne (a.1 z hz)).symm, getK_none fun z hz => (o.ne (b.1 z hz)).symm]
      · rw [if_neg hk, if_neg hk] at this; exact this
/-- with v at k -/
def putK (k : κ) (v : ν) : List (κ × ν) → List (κ × ν)
  | [] => [(k, v)]
  | y :: r => if k = y.1 then (k, v) :: r else if o.lt k y.1 then (k, v) :: y :: r else y :: putK k v r
theorem mem_putK {k : κ} {v : ν} {l : List (κ × ν)} {z : κ × ν} (h : z ∈ putK o k v l) : z = (k, v) ∨ z ∈ l := by
  induction l with
  | nil => exact .inl (by simpa [putK] using h)
  | cons y r ih =>
    unfold putK at h
    split at h
    · rcases List.mem_cons.1 h with h | h
      · exact .inl h
      · exact .inr (List.mem_cons_of_mem _ h)
    · split at h
      · exact List.mem_cons.1 h
      · rcases List.mem_cons.1 h with h | h
        · exact .inr (by rw [h]; exact List.mem_cons_self)
        · rcases ih h with h | h
          · exact .inl h
          · exact .inr (List.mem_cons_of_mem _ h)
theorem putK_length (k : κ) (v : ν) (l : List (κ × ν)) : (putK o k v l).length ≤ l.length + 1 := by
  induction l with
  | nil => exact Nat.le_refl _
  | cons y r ih => unfold putK; split; · simp
                   split; · simp
                   simp only [List.length_cons]; omega
theorem ris_putK {k : κ} {v : ν} {l : List (κ × ν)} (h : RisK o l) : RisK o (putK o k v l) := by
  induction l with
  | nil => exact List.pairwise_singleton _ _
  | cons y r ih =>
    have a := List.pairwise_cons.1 h
    unfold putK
    split
    · rename_i e
      exact List.pairwise_cons.2 ⟨fun z hz => by show o.lt k z.1 = true; rw [e]; exact a.1 z hz, a.2⟩
    · rename_i ne
      split
      · rename_i hl
        refine List.pairwise_cons.2 ⟨fun z hz => ?_, h⟩
        rcases List.mem_cons.1 hz with e | e
        · rw [e]; exact hl
        · exact o.trans hl (a.1 z e)
      · rename_i hl
        refine List.pairwise_cons.2 ⟨fun z hz => ?_, ih a.2⟩
        rcases mem_putK o hz with e | e
        · subst e
          show o.lt y.1 k = true
          cases h2 : o.lt y.1 k with
          | true => rfl
          | false => exact absurd (o.tri (by simpa using hl) h2) ne
        · exact a.1 z e
theorem get_putK {k : κ} {v : ν} (q : κ) {l : List (κ × ν)} (h : RisK o l) : getK (putK o k v l) q = if k = q then some v else getK l q := by
  induction l with
  | nil => simp [putK, getK]
  | cons y r ih =>
    have a := List.pairwise_cons.1 h
    unfold putK
    split
    · rename_i e
      simp only [getK]
      by_cases hq : k = q
      · rw [if_pos hq, if_pos hq]
      · rw [if_neg hq, if_neg hq, if_neg (by rw [← e]; exact hq)]
    · rename_i ne
      split
      · simp only [getK]
      · simp only [getK]
        rw [ih a.2]
        by_cases hq : k = q
        · rw [if_pos hq, if_neg (by rw [← hq]; exact fun e => ne e.symm), if_pos hq]
        · rw [if_neg hq, if_neg hq]
/-- what is put at one key behind the other -/
theorem get_fold (g : κ → ν) (q : κ) : ∀ (ks : List κ) {l : List (κ × ν)}, RisK o l → RisK o (ks.foldl (fun acc k => putK o k (g k) acc) l) ∧ getK (ks.foldl (fun acc k => putK o k (g k) acc) l) q = if q ∈ ks then some (g q) else getK l q
  | [], l, h => ⟨h, by simp⟩
  | k :: ks, l, h => by
    obtain ⟨h1, h2⟩ := get_fold g q ks (ris_putK o (k := k) (v := g k) h)
    refine ⟨h1, ?_⟩
    rw [List.foldl_cons, h2, get_putK o q h]
    by_cases hq : q ∈ ks
    · rw [if_pos hq, if_pos (List.mem_cons_of_mem _ hq)]
    · rw [if_neg hq]
      by_cases hk : k = q
      · subst hk; rw [if_pos rfl, if_pos List.mem_cons_self]
      · rw [if_neg hk, if_neg (fun e => by rcases List.mem_cons.1 e with e | e; · exact hk e.symm
                                           exact hq e)]
/-- two lists side by side -/
def pairK : List (κ × ν) → List (κ × ν) → List (κ × Option ν × Option ν)
  | [], b => b.map fun y => (y.1, none, some y.2)
  | x :: a, [] => (x :: a).map fun x => (x.1, some x.2, none)
  | x :: a, y :: b => if x.1 = y.1 then (x.1, some x.2, some y.2) :: pairK a b else if o.lt x.1 y.1 then (x.1, some x.2, none) :: pairK a (y :: b) else (y.1, none, some y.2) :: pairK (x :: a) b
termination_by a b => a.length + b.length
theorem getK_map {μ : Type} (f : κ → ν → μ) (l : List (κ × ν)) (k : κ) : getK (l.map fun x => (x.1, f x.1 x.2)) k = (getK l k).map (f k) := by
  induction l with
  | nil => rfl
  | cons x r ih =>
    simp only [List.map_cons, getK]
    by_cases h : x.1 = k
    · rw [if_pos h, if_pos h, ← h]; rfl
    · rw [if_neg h, if_neg h, ih]
/-- what is at a key in one of two -/
def both2 (p q : Option ν) : Option (Option ν × Option ν) := if p.isSome || q.isSome then some (p, q) else none
theorem get_pairK (k : κ) : ∀ {a b : List (κ × ν)}, RisK o a → RisK o b → getK (pairK o a b) k = both2 (getK a k) (getK b k)
  | [], b, _, hb => by
    unfold pairK
    rw [getK_map (fun _ v => ((none, some v) : Option ν × Option ν))]
    cases getK b k <;> simp [both2, getK]
  | x :: a, [], ha, _ => by
    unfold pairK
    rw [getK_map (fun _ v => ((some v, none) : Option ν × Option ν))]
    cases getK (x :: a) k <;> simp [both2, getK]
  | x :: a, y :: b, ha, hb => by
    have pa := List.pairwise_cons.1 ha
    have pb := List.pairwise_cons.1 hb
    unfold pairK
    split
    · rename_i e
      simp only [getK]
      by_cases hk : x.1 = k
      · rw [if_pos hk, if_pos hk, if_pos (by rw [← e]; exact hk)]; rfl
      · rw [if_neg hk, if_neg hk, if_neg (by rw [← e]; exact hk)]
        exact get_pairK k pa.2 pb.2
    · rename_i ne
      split
      · rename_i hl
        simp only [getK]
        by_cases hk : x.1 = k
        · rw [if_pos hk, if_pos hk, if_neg (by rw [← hk]; exact fun e => ne e.symm)]
          rw [getK_none fun z hz => fun e => by
            have := o.trans hl (pb.1 z hz)
            rw [e, ← hk, o.irrefl] at this; cases this]
          rfl
        · rw [if_neg hk, if_neg hk]
          have := get_pairK k pa.2 hb
          simp only [getK] at this
          exact this
      · rename_i hl
        have hl2 : o.lt y.1 x.1 = true := by
          cases h : o.lt y.1 x.1 with
          | true => rfl
          | false => exact absurd (o.tri (by simpa using hl) h) ne
        simp only [getK]
        by_cases hk : y.1 = k
        · rw [if_pos hk, if_neg (by rw [← hk]; exact ne), if_pos hk]
          rw [getK_none fun z hz => fun e => by
            have := o.trans hl2 (pa.1 z hz)
            rw [e, ← hk, o.irrefl] at this; cases this]
          rfl
        · rw [if_neg hk, if_neg hk]
          have := get_pairK k ha pb.2
          simp only [getK] at this
          exact this
termination_by a b => a.length + b.length
theorem mem_pairK {z : κ × Option ν × Option ν} : ∀ {a b : List (κ × ν)}, z ∈ pairK o a b → (∃ x ∈ a, x.1 = z.1) ∨ (∃ y ∈ b, y.1 = z.1)
  | [], b, h => by
    unfold pairK at h
    obtain ⟨y, hy, rfl⟩ := List.mem_map.1 h
    exact .inr ⟨y, hy, rfl⟩
  | x :: a, [], h => by
    unfold pairK at h
    obtain ⟨y, hy, rfl⟩ := List.mem_map.1 h
    exact .inl ⟨y, hy, rfl⟩
  | x :: a, y :: b, h => by
    unfold pairK at h
    split at h
    · rcases List.mem_cons.1 h with rfl | h
      · exact .inl ⟨x, List.mem_cons_self, rfl⟩
      · rcases mem_pairK h with ⟨u, hu, e⟩ | ⟨u, hu, e⟩
        · exact .inl ⟨u, List.mem_cons_of_mem _ hu, e⟩
        · exact .inr ⟨u, List.mem_cons_of_mem _ hu, e⟩
    · split at h
      · rcases List.mem_cons.1 h with rfl | h
        · exact .inl ⟨x, List.mem_cons_self, rfl⟩
        · rcases mem_pairK h with ⟨u, hu, e⟩ | ⟨u, hu, e⟩
          · exact .inl ⟨u, List.mem_cons_of_mem _ hu, e⟩
          · exact .inr ⟨u, hu, e⟩
      · rcases List.mem_cons.1 h with rfl | h
        · exact .inr ⟨y, List.mem_cons_self, rfl⟩
        · rcases mem_pairK h with ⟨u, hu, e⟩ | ⟨u, hu, e⟩
          · exact .inl ⟨u, hu, e⟩
          · exact .inr ⟨u, List.mem_cons_of_mem _ hu, e⟩
termination_by a b => a.length + b.length
theorem ris_pairK : ∀ {a b : List (κ × ν)}, RisK o a → RisK o b → RisK o (pairK o a b)
  | [], b, _, hb => by unfold pairK RisK; rw [List.pairwise_map]; exact hb
  | x :: a, [], ha, _ => by unfold pairK RisK; rw [List.pairwise_map]; exact ha
  | x :: a, y :: b, ha, hb => by
    have pa := List.pairwise_cons.1 ha
    have pb := List.pairwise_cons.1 hb
    unfold pairK
    split
    · rename_i e
      refine List.pairwise_cons.2 ⟨fun z hz => ?_, ris_pairK pa.2 pb.2⟩
      rcases mem_pairK o hz with ⟨u, hu, hz⟩ | ⟨u, hu, hz⟩
      · rw [← hz]; exact pa.1 u hu
      · rw [← hz]; show o.lt x.1 u.1 = true; rw [e]; exact pb.1 u hu
    · rename_i ne
      split
      · rename_i hl
        refine List.pairwise_cons.2 ⟨fun z hz => ?_, ris_pairK pa.2 hb⟩
        rcases mem_pairK o hz with ⟨u, hu, hz⟩ | ⟨u, hu, hz⟩
        · rw [← hz]; exact pa.1 u hu
        · rw [← hz]
          rcases List.mem_cons.1 hu with e | e
          · rw [e]; exact hl
          · exact o.trans hl (pb.1 u e)
      · rename_i hl
        have hl2 : o.lt y.1 x.1 = true := by
          cases h : o.lt y.1 x.1 with
          | true => rfl
          | false => exact absurd (o.tri (by simpa using hl) h) ne
        refine List.pairwise_cons.2 ⟨fun z hz => ?_, ris_pairK ha pb.2⟩
        rcases mem_pairK o hz with ⟨u, hu, hz⟩ | ⟨u, hu, hz⟩
        · rw [← hz]
          rcases List.mem_cons.1 hu with e | e
          · rw [e]; exact hl2
          · exact o.trans hl2 (pa.1 u e)
        · rw [← hz]; exact pb.1 u hu
termination_by a b => a.length + b.length
/-- both of two, by f -/
def joinK (f : Option ν → Option ν → ν) (a b : List (κ × ν)) : List (κ × ν) := (pairK o a b).map fun z => (z.1, f z.2.1 z.2.2)
theorem ris_joinK {f : Option ν → Option ν → ν} {a b : List (κ × ν)} (ha : RisK o a) (hb : RisK o b) : RisK o (joinK o f a b) := by
  unfold joinK RisK; rw [List.pairwise_map]; exact ris_pairK o ha hb
theorem get_joinK {f : Option ν → Option ν → ν} {a b : List (κ × ν)} (k : κ) (ha : RisK o a) (hb : RisK o b) : getK (joinK o f a b) k = (both2 (getK a k) (getK b k)).map fun z => f z.1 z.2 := by
  unfold joinK
  rw [getK_map (fun _ (z : Option ν × Option ν) => f z.1 z.2), get_pairK o k ha hb]
end
end M
end Go.Proofs.YtbaaeobdjiglgaaGreat
