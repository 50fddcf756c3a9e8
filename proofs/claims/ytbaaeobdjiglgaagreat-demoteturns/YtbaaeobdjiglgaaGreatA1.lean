/-
  Atoms as mathematics: which may be, their order, rising lists, norms. Nothing of the program's code is walked here. No conditions.
-/
set_option linter.unusedVariables false
namespace Go.Proofs.YtbaaeobdjiglgaaGreat
namespace M

/-- an atom -/
structure Atm where
  k : Int
  n : Int
  deriving DecidableEq, Inhabited

def okA (x : Atm) : Bool := if 3 ≤ x.k ∧ x.k ≤ 5 then decide (0 ≤ x.n) else decide (0 ≤ x.k ∧ x.k ≤ 6 ∧ x.n = 0)
def ltA (x y : Atm) : Bool := decide (x.k < y.k ∨ x.k = y.k ∧ x.n < y.n)

theorem ok_mid {x : Atm} (h1 : 3 ≤ x.k) (h2 : x.k ≤ 5) : decide (0 ≤ x.n) = okA x := by unfold okA; rw [if_pos ⟨h1, h2⟩]
theorem ok_out {x : Atm} (h : x.k < 3 ∨ 5 < x.k) (h1 : 0 ≤ x.k) (h2 : x.k ≤ 6) : (x.n == 0) = okA x := by
  unfold okA; rw [if_neg (by omega)]; simp [h1, h2]
  by_cases h : x.n = 0 <;> simp [h]
theorem ok_far {x : Atm} (h : x.k < 0 ∨ 6 < x.k) : false = okA x := by
  unfold okA; rw [if_neg (by omega)]; symm; rw [decide_eq_false_iff_not]; omega
theorem atm_ext {x y : Atm} (h1 : x.k = y.k) (h2 : x.n = y.n) : x = y := by
  cases x; cases y; simp at h1 h2; rw [h1, h2]
theorem lt_irrefl (x : Atm) : ltA x x = false := by simp [ltA]
theorem lt_trans {x y z : Atm} (h1 : ltA x y = true) (h2 : ltA y z = true) : ltA x z = true := by
  simp [ltA] at *; omega
theorem lt_asymm {x y : Atm} (h1 : ltA x y = true) : ltA y x = false := by
  simp [ltA] at *; omega
theorem lt_tri {x y : Atm} (h1 : ltA x y = false) (h2 : ltA y x = false) : x = y := by
  simp [ltA] at h1 h2; exact atm_ext (by omega) (by omega)
theorem lt_ne {x y : Atm} (h1 : ltA x y = true) : x ≠ y := fun h => by subst h; rw [lt_irrefl] at h1; cases h1

/-- each ahead of all behind it -/
def Rising (l : List Atm) : Prop := l.Pairwise fun x y => ltA x y = true

theorem rising_ext : ∀ {l m : List Atm}, Rising l → Rising m → (∀ x, x ∈ l ↔ x ∈ m) → l = m
  | [], [], _, _, _ => rfl
  | [], y :: m, _, _, h => absurd ((h y).2 (List.mem_cons_self ..)) (by simp)
  | x :: l, [], _, _, h => absurd ((h x).1 (List.mem_cons_self ..)) (by simp)
  | x :: l, y :: m, h1, h2, h => by
    have a := List.pairwise_cons.1 h1
    have b := List.pairwise_cons.1 h2
    have hx : x = y := by
      rcases List.mem_cons.1 ((h x).1 (List.mem_cons_self ..)) with e | e
      · exact e
      · rcases List.mem_cons.1 ((h y).2 (List.mem_cons_self ..)) with f | f
        · exact f.symm
        · have := lt_asymm (b.1 x e); rw [a.1 y f] at this; cases this
    subst hx
    have : l = m := rising_ext a.2 b.2 fun z => by
      constructor
      · intro hz
        rcases List.mem_cons.1 ((h z).1 (List.mem_cons_of_mem _ hz)) with e | e
        · exact absurd e.symm (lt_ne (a.1 z hz))
        · exact e
      · intro hz
        rcases List.mem_cons.1 ((h z).2 (List.mem_cons_of_mem _ hz)) with e | e
        · exact absurd e.symm (lt_ne (b.1 z hz))
        · exact e
    rw [this]

/-- an atom more, ahead of the first that it is less than -/
def put (x : Atm) : List Atm → List Atm
  | [] => [x]
  | y :: r => if ltA x y then x :: y :: r else y :: put x r
def has (l : List Atm) (x : Atm) : Bool := decide (x ∈ l)
def add (l : List Atm) (x : Atm) : List Atm := if okA x && !has l x then put x l else l
def norm (l : List Atm) : List Atm := l.foldl add []

theorem mem_put (x z : Atm) : ∀ l, z ∈ put x l ↔ z = x ∨ z ∈ l
  | [] => by simp [put]
  | y :: r => by
    unfold put
    split
    · simp
    · rw [List.mem_cons, mem_put x z r, List.mem_cons]
      constructor
      · rintro (h | h | h) <;> simp [h]
      · rintro (h | h | h) <;> simp [h]
theorem put_length (x : Atm) : ∀ l, (put x l).length = l.length + 1
  | [] => rfl
  | y :: r => by
    unfold put
    split
    · rfl
    · rw [List.length_cons, put_length x r, List.length_cons]
theorem rising_put (x : Atm) : ∀ l, Rising l → x ∉ l → Rising (put x l)
  | [], _, _ => by unfold put Rising; simp
  | y :: r, h, hx => by
    have a := List.pairwise_cons.1 h
    unfold put
    split
    · rename_i hlt
      refine List.pairwise_cons.2 ⟨fun z hz => ?_, h⟩
      rcases List.mem_cons.1 hz with e | e
      · rw [e]; exact hlt
      · exact lt_trans hlt (a.1 z e)
    · rename_i hlt
      refine List.pairwise_cons.2 ⟨fun z hz => ?_, rising_put x r a.2 fun e => hx (List.mem_cons_of_mem _ e)⟩
      rcases (mem_put x z r).1 hz with e | e
      · subst e
        cases hyx : ltA y z with
        | true => rfl
        | false => exact absurd (lt_tri (by simpa using hlt) hyx) fun e => hx (by rw [e]; exact List.mem_cons_self ..)
      · exact a.1 z e

theorem mem_add (l : List Atm) (x z : Atm) : z ∈ add l x ↔ z ∈ l ∨ z = x ∧ okA x = true := by
  unfold add
  cases ho : okA x with
  | false => simp
  | true =>
    cases hh : has l x with
    | false =>
      simp only [Bool.not_false, Bool.and_self, if_true, mem_put]
      constructor
      · rintro (h | h)
        · exact .inr ⟨h, trivial⟩
        · exact .inl h
      · rintro (h | ⟨h, _⟩)
        · exact .inr h
        · exact .inl h
    | true =>
      have hm : x ∈ l := of_decide_eq_true hh
      simp only [Bool.not_true, Bool.and_false, Bool.false_eq_true, if_false]
      constructor
      · exact .inl
      · rintro (h | ⟨h, _⟩)
        · exact h
        · rw [h]; exact hm
theorem rising_add (l : List Atm) (x : Atm) (h : Rising l) : Rising (add l x) := by
  unfold add
  split
  · rename_i hc
    refine rising_put x l h fun e => ?_
    simp [has, e] at hc
  · exact h
theorem add_length (l : List Atm) (x : Atm) : (add l x).length ≤ l.length + 1 := by
  unfold add
  split
  · rw [put_length]; exact Nat.le_refl _
  · omega
theorem fold_norm : ∀ (l acc : List Atm), Rising acc → Rising (l.foldl add acc) ∧ (∀ z, z ∈ l.foldl add acc ↔ z ∈ acc ∨ z ∈ l ∧ okA z = true) ∧ (l.foldl add acc).length ≤ acc.length + l.length
  | [], acc, h => ⟨h, fun z => by simp, by simp⟩
  | x :: l, acc, h => by
    obtain ⟨h1, h2, h3⟩ := fold_norm l (add acc x) (rising_add acc x h)
    refine ⟨h1, fun z => ?_, ?_⟩
    · rw [List.foldl_cons, h2, mem_add, List.mem_cons]
      constructor
      · rintro ((h | ⟨rfl, h⟩) | ⟨h, h'⟩)
        · exact .inl h
        · exact .inr ⟨.inl rfl, h⟩
        · exact .inr ⟨.inr h, h'⟩
      · rintro (h | ⟨rfl | h, h'⟩)
        · exact .inl (.inl h)
        · exact .inl (.inr ⟨rfl, h'⟩)
        · exact .inr ⟨h, h'⟩
    · rw [List.foldl_cons, List.length_cons]
      have := add_length acc x
      omega
theorem norm_rising (l : List Atm) : Rising (norm l) := (fold_norm l [] List.Pairwise.nil).1
theorem mem_norm (l : List Atm) (z : Atm) : z ∈ norm l ↔ z ∈ l ∧ okA z = true := by
  unfold norm; rw [(fold_norm l [] List.Pairwise.nil).2.1]; simp
theorem norm_length (l : List Atm) : (norm l).length ≤ l.length := by
  have := (fold_norm l [] List.Pairwise.nil).2.2
  unfold norm; simpa using this
/-- the one rising list of those of l that may be -/
theorem norm_eq {l s : List Atm} (h : Rising s) (hm : ∀ z, z ∈ s ↔ z ∈ l ∧ okA z = true) : s = norm l :=
  rising_ext h (norm_rising l) fun z => by rw [hm, mem_norm]
theorem norm_append (a b : List Atm) : norm (a ++ b) = b.foldl add (norm a) := by unfold norm; rw [List.foldl_append]

def mayL (l : List Atm) : Bool := decide (l = norm l)
theorem may_iff (l : List Atm) : mayL l = true ↔ Rising l ∧ ∀ x ∈ l, okA x = true := by
  unfold mayL
  rw [decide_eq_true_iff]
  constructor
  · intro h
    refine ⟨by rw [h]; exact norm_rising l, fun x hx => ?_⟩
    rw [h] at hx
    exact ((mem_norm l x).1 hx).2
  · rintro ⟨h1, h2⟩
    exact norm_eq h1 fun z => ⟨fun h => ⟨h, h2 z h⟩, fun h => h.1⟩
theorem may_norm (l : List Atm) : mayL (norm l) = true := (may_iff _).2 ⟨norm_rising l, fun x hx => ((mem_norm l x).1 hx).2⟩

theorem rising_of_adj : ∀ {l : List Atm}, (∀ i (h : i + 1 < l.length), ltA l[i] l[i + 1] = true) → Rising l
  | [], _ => List.Pairwise.nil
  | [x], _ => by unfold Rising; simp
  | x :: y :: r, h => by
    have hr : Rising (y :: r) := rising_of_adj fun i hi => h (i + 1) (by simpa using hi)
    have hxy : ltA x y = true := h 0 (by simp)
    refine List.pairwise_cons.2 ⟨fun z hz => ?_, hr⟩
    rcases List.mem_cons.1 hz with e | e
    · rw [e]; exact hxy
    · exact lt_trans hxy ((List.pairwise_cons.1 hr).1 z e)
theorem rising_get {l : List Atm} (h : Rising l) {i j : Nat} (hi : i < j) (hj : j < l.length) : ltA (l[i]'(by omega)) l[j] = true :=
  List.pairwise_iff_getElem.1 h i j (by omega) hj hi

def within (a b : List Atm) : Bool := a.all fun x => has b x
theorem within_iff (a b : List Atm) : within a b = true ↔ ∀ x ∈ a, x ∈ b := by
  simp [within, has]
def ren (site : Int) (x : Atm) : Atm := if x.k = 4 ∧ x.n = site then ⟨5, x.n⟩ else x
def rename (l : List Atm) (site : Int) : List Atm := norm (l.map (ren site))
theorem has_iff (l : List Atm) (x : Atm) : has l x = true ↔ x ∈ l := by simp [has]
def sameB (a b : List Atm) : Bool := decide (a = b)

/-! What the laws say. -/
theorem ok_ren (s : Int) (x : Atm) : okA (ren s x) = okA x := by
  unfold ren
  split
  · rename_i h; simp [okA, h.1]
  · rfl
theorem union_may (a b : List Atm) : mayL (norm (a ++ b)) = true := may_norm _
theorem mem_union (a b : List Atm) (z : Atm) : z ∈ norm (a ++ b) ↔ (z ∈ a ∨ z ∈ b) ∧ okA z = true := by rw [mem_norm, List.mem_append]
theorem union_comm (a b : List Atm) : norm (a ++ b) = norm (b ++ a) :=
  rising_ext (norm_rising _) (norm_rising _) fun z => by rw [mem_union, mem_union, or_comm]
theorem union_again (a b : List Atm) : norm (a ++ b) = norm (norm (a ++ b) ++ a) :=
  rising_ext (norm_rising _) (norm_rising _) fun z => by
    rw [mem_union, mem_union, mem_union]
    constructor
    · rintro ⟨h, h'⟩; exact ⟨.inl ⟨h, h'⟩, h'⟩
    · rintro ⟨h | h, h'⟩
      · exact h
      · exact ⟨.inl h, h'⟩
theorem union_assoc (a b c : List Atm) : norm (norm (a ++ b) ++ c) = norm (a ++ norm (b ++ c)) :=
  rising_ext (norm_rising _) (norm_rising _) fun z => by
    rw [mem_union, mem_union, mem_union, mem_union]
    constructor
    · rintro ⟨⟨h | h, h'⟩ | h, h''⟩
      · exact ⟨.inl h, h''⟩
      · exact ⟨.inr ⟨.inl h, h''⟩, h''⟩
      · exact ⟨.inr ⟨.inr h, h''⟩, h''⟩
    · rintro ⟨h | ⟨h | h, h'⟩, h''⟩
      · exact ⟨.inl ⟨.inl h, h''⟩, h''⟩
      · exact ⟨.inl ⟨.inr h, h''⟩, h''⟩
      · exact ⟨.inr h, h''⟩
theorem within_left {a : List Atm} (b : List Atm) (h : mayL a = true) : within a (norm (a ++ b)) = true :=
  (within_iff _ _).2 fun x hx => (mem_union _ _ _).2 ⟨.inl hx, ((may_iff a).1 h).2 x hx⟩
theorem within_right (a : List Atm) {b : List Atm} (h : mayL b = true) : within b (norm (a ++ b)) = true :=
  (within_iff _ _).2 fun x hx => (mem_union _ _ _).2 ⟨.inr hx, ((may_iff b).1 h).2 x hx⟩
theorem union_least {a b c : List Atm} (h1 : within a c = true) (h2 : within b c = true) : within (norm (a ++ b)) c = true :=
  (within_iff _ _).2 fun x hx => by
    rcases ((mem_union _ _ _).1 hx).1 with h | h
    · exact (within_iff _ _).1 h1 x h
    · exact (within_iff _ _).1 h2 x h
theorem both_within {a b : List Atm} (ha : mayL a = true) (hb : mayL b = true) : (within a b && within b a) = sameB a b := by
  rw [Bool.eq_iff_iff, Bool.and_eq_true, within_iff, within_iff, sameB, decide_eq_true_iff]
  constructor
  · rintro ⟨h1, h2⟩
    exact rising_ext ((may_iff a).1 ha).1 ((may_iff b).1 hb).1 fun z => ⟨h1 z, h2 z⟩
  · rintro rfl; exact ⟨fun _ h => h, fun _ h => h⟩
theorem mem_rename (l : List Atm) (s : Int) (z : Atm) : z ∈ rename l s ↔ (∃ x ∈ l, ren s x = z) ∧ okA z = true := by
  unfold rename; rw [mem_norm, List.mem_map]
theorem ren_not (s : Int) (x : Atm) : ren s x ≠ ⟨4, s⟩ := by
  unfold ren
  split
  · simp
  · rename_i h; intro e; exact h (by rw [e]; exact ⟨rfl, rfl⟩)
theorem ren_ren (s : Int) (x : Atm) : ren s (ren s x) = ren s x := by
  have := ren_not s x
  generalize ren s x = y at *
  unfold ren
  rw [if_neg]
  rintro ⟨h1, h2⟩
  exact this (atm_ext h1 h2)
theorem rename_has (l : List Atm) (s : Int) : has (rename l s) ⟨4, s⟩ = false := by
  unfold has
  rw [decide_eq_false_iff_not, mem_rename]
  rintro ⟨⟨x, _, h⟩, _⟩
  exact ren_not s x h
theorem rename_again (l : List Atm) (s : Int) : rename (rename l s) s = rename l s :=
  rising_ext (norm_rising _) (norm_rising _) fun z => by
    rw [mem_rename]
    constructor
    · rintro ⟨⟨x, hx, rfl⟩, ho⟩
      obtain ⟨⟨y, hy, rfl⟩, h2⟩ := (mem_rename _ _ _).1 hx
      exact (mem_rename _ _ _).2 ⟨⟨y, hy, (ren_ren s y).symm⟩, ho⟩
    · intro hz
      obtain ⟨⟨y, hy, rfl⟩, h2⟩ := (mem_rename _ _ _).1 hz
      exact ⟨⟨ren s y, hz, ren_ren s y⟩, h2⟩
theorem rename_within {a b : List Atm} (s : Int) (h : within a b = true) : within (rename a s) (rename b s) = true :=
  (within_iff _ _).2 fun z hz => by
    obtain ⟨⟨x, hx, e⟩, ho⟩ := (mem_rename _ _ _).1 hz
    exact (mem_rename _ _ _).2 ⟨⟨x, (within_iff _ _).1 h x hx, e⟩, ho⟩
theorem rename_union (a b : List Atm) (s : Int) : rename (norm (a ++ b)) s = norm (rename a s ++ rename b s) :=
  rising_ext (norm_rising _) (norm_rising _) fun z => by
    rw [mem_rename, mem_union, mem_rename, mem_rename]
    constructor
    · rintro ⟨⟨x, hx, rfl⟩, ho⟩
      rcases ((mem_union _ _ _).1 hx).1 with h | h
      · exact ⟨.inl ⟨⟨x, h, rfl⟩, ho⟩, ho⟩
      · exact ⟨.inr ⟨⟨x, h, rfl⟩, ho⟩, ho⟩
    · rintro ⟨⟨⟨x, hx, rfl⟩, ho⟩ | ⟨⟨x, hx, rfl⟩, ho⟩, _⟩
      · exact ⟨⟨x, (mem_union _ _ _).2 ⟨.inl hx, by rw [ok_ren] at ho; exact ho⟩, rfl⟩, ho⟩
      · exact ⟨⟨x, (mem_union _ _ _).2 ⟨.inr hx, by rw [ok_ren] at ho; exact ho⟩, rfl⟩, ho⟩
theorem rename_none {a : List Atm} (s : Int) (ha : mayL a = true) (h : has a ⟨4, s⟩ = false) : rename a s = a := by
  have hn : (⟨4, s⟩ : Atm) ∉ a := by simpa [has] using h
  have : a.map (ren s) = a := by
    conv => rhs; rw [← List.map_id a]
    refine List.map_congr_left fun x hx => ?_
    unfold ren
    rw [if_neg]
    · rfl
    · rintro ⟨h1, h2⟩
      exact hn (by rw [show (⟨4, s⟩ : Atm) = x from (atm_ext h1 h2).symm]; exact hx)
  unfold rename
  rw [this]
  exact (of_decide_eq_true ha).symm
theorem in_union (a b : List Atm) {x : Atm} (hx : okA x = true) : has (norm (a ++ b)) x = (has a x || has b x) := by
  rw [Bool.eq_iff_iff, Bool.or_eq_true, has_iff, has_iff, has_iff, mem_union]
  exact ⟨fun h => h.1, fun h => ⟨h, hx⟩⟩
theorem within_one (a : List Atm) (x : Atm) : within [x] a = has a x := by simp [within]
theorem within_union {a b : List Atm} (ha : mayL a = true) : within (norm (a ++ b)) b = within a b := by
  rw [Bool.eq_iff_iff, within_iff, within_iff]
  constructor
  · intro h x hx
    exact h x ((mem_union _ _ _).2 ⟨.inl hx, ((may_iff a).1 ha).2 x hx⟩)
  · intro h x hx
    rcases ((mem_union _ _ _).1 hx).1 with h' | h'
    · exact h x h'
    · exact h'
theorem may_one {x : Atm} (h : mayL [x] = true) : okA x = true := ((may_iff _).1 h).2 x (List.mem_cons_self ..)

/-! What the program does: sorted, and each but once. -/
/-- each once, of those that stand side by side -/
def cpl (l : List Atm) : List Atm := l.foldl (fun acc x => if acc.getLast? = some x then acc else acc ++ [x]) []
theorem cpl_snoc (l : List Atm) (x : Atm) : cpl (l ++ [x]) = if (cpl l).getLast? = some x then cpl l else cpl l ++ [x] := by
  unfold cpl; rw [List.foldl_append]; rfl
theorem cpl_last (l : List Atm) (x : Atm) : (cpl (l ++ [x])).getLast? = some x := by
  rw [cpl_snoc]
  split
  · assumption
  · simp
theorem cpl_step {l : List Atm} {j : Nat} (h : j + 1 < l.length) : cpl (l.take (j + 2)) = if l[j] = l[j + 1] then cpl (l.take (j + 1)) else cpl (l.take (j + 1)) ++ [l[j + 1]] := by
  rw [List.take_succ_eq_append_getElem h, cpl_snoc]
  have : (cpl (l.take (j + 1))).getLast? = some l[j] := by
    rw [List.take_succ_eq_append_getElem (by omega : j < l.length)]; exact cpl_last _ _
  rw [this]
  simp only [Option.some.injEq]
theorem cpl_one {l : List Atm} (h : 0 < l.length) : cpl (l.take 1) = l.take 1 := by
  cases l with
  | nil => simp at h
  | cons x r => simp [cpl]
theorem cpl_short {l : List Atm} (h : l.length < 2) : cpl l = l := by
  match l, h with
  | [], _ => rfl
  | [x], _ => simp [cpl]
theorem mem_cpl (z : Atm) : ∀ l : List Atm, z ∈ cpl l ↔ z ∈ l := by
  have key : ∀ (l acc : List Atm), z ∈ l.foldl (fun acc x => if acc.getLast? = some x then acc else acc ++ [x]) acc ↔ z ∈ acc ∨ z ∈ l := by
    intro l
    induction l with
    | nil => intro acc; simp
    | cons x r ih =>
      intro acc
      rw [List.foldl_cons, ih, List.mem_cons]
      split
      · rename_i h
        have hx : x ∈ acc := List.mem_of_getLast? h
        constructor
        · rintro (h | h)
          · exact .inl h
          · exact .inr (.inr h)
        · rintro (h | rfl | h)
          · exact .inl h
          · exact .inl hx
          · exact .inr h
      · rw [List.mem_append, List.mem_singleton, or_assoc]
  intro l
  unfold cpl
  rw [key]; simp
theorem cpl_length : ∀ l : List Atm, (cpl l).length ≤ l.length := by
  have key : ∀ (l acc : List Atm), (l.foldl (fun acc x => if acc.getLast? = some x then acc else acc ++ [x]) acc).length ≤ acc.length + l.length := by
    intro l
    induction l with
    | nil => intro acc; simp
    | cons x r ih =>
      intro acc
      rw [List.foldl_cons, List.length_cons]
      refine Nat.le_trans (ih _) ?_
      split
      · omega
      · simp; omega
  intro l
  have := key l []
  unfold cpl; simpa using this
/-- not falling -/
def Steady (l : List Atm) : Prop := l.Pairwise fun x y => ltA y x = false
theorem cpl_rising {l : List Atm} (h : Steady l) : Rising (cpl l) := by
  have key : ∀ (l acc : List Atm), Steady l → Rising acc → (∀ x ∈ acc, ∀ y ∈ l, ltA y x = false) → Rising (l.foldl (fun acc x => if acc.getLast? = some x then acc else acc ++ [x]) acc) := by
    intro l
    induction l with
    | nil => intro acc _ h _; exact h
    | cons x r ih =>
      intro acc hs hr hc
      have hs' := List.pairwise_cons.1 hs
      rw [List.foldl_cons]
      split
      · exact ih acc hs'.2 hr fun a ha y hy => hc a ha y (List.mem_cons_of_mem _ hy)
      · rename_i hne
        have hlt : ∀ a ∈ acc, ltA a x = true := fun a ha => by
          cases h1 : ltA a x with
          | true => rfl
          | false =>
            have e : a = x := lt_tri h1 (hc a ha x (List.mem_cons_self ..))
            exfalso
            subst e
            -- a is in acc, and not its last: then the last is above a
            cases hl : acc.getLast? with
            | none => rw [List.getLast?_eq_none_iff] at hl; subst hl; simp at ha
            | some b =>
              have hb : b ≠ a := fun e => hne (by rw [hl, e])
              obtain ⟨m, hm⟩ := List.getLast?_eq_some_iff.1 hl
              subst hm
              rcases List.mem_append.1 ha with h2 | h2
              · have := (List.pairwise_append.1 hr).2.2 a h2 b (List.mem_singleton.2 rfl)
                rw [hc b (by simp) a (List.mem_cons_self ..)] at this; cases this
              · exact hb (List.mem_singleton.1 h2).symm
        refine ih _ hs'.2 (List.pairwise_append.2 ⟨hr, by simp, fun a ha b hb => by rw [List.mem_singleton.1 hb]; exact hlt a ha⟩) fun a ha y hy => ?_
        rcases List.mem_append.1 ha with h2 | h2
        · exact hc a h2 y (List.mem_cons_of_mem _ hy)
        · rw [List.mem_singleton.1 h2]; exact hs'.1 y hy
  exact key l [] h List.Pairwise.nil fun _ h => by simp at h
/-- sorted, then each once: the norm -/
theorem cpl_norm {l d : List Atm} (hs : Steady d) (hm : ∀ z, z ∈ d ↔ z ∈ l ∧ okA z = true) : cpl d = norm l :=
  norm_eq (cpl_rising hs) fun z => by rw [mem_cpl, hm]
/-! How far a list may be. -/
/-- the first j of them may be, and rise -/
def MayUp (l : List Atm) (j : Nat) : Prop := (∀ i (h : i < l.length), i < j → okA l[i] = true) ∧ (∀ i (h : i + 1 < l.length), i + 1 < j → ltA l[i] l[i + 1] = true)
theorem mayUp_zero (l : List Atm) : MayUp l 0 := ⟨fun i _ h => absurd h (Nat.not_lt_zero _), fun i _ h => absurd h (Nat.not_lt_zero _)⟩
theorem mayUp_first {l : List Atm} (h : 0 < l.length) (ho : okA l[0] = true) : MayUp l 1 := ⟨fun i hi h => by
    obtain rfl : i = 0 := by omega
    exact ho, fun i _ h => absurd h (by omega)⟩
theorem mayUp_step {l : List Atm} {t : Nat} (h : MayUp l (t + 1)) (ht : t + 1 < l.length) (ho : okA l[t + 1] = true) (hl : ltA l[t] l[t + 1] = true) : MayUp l (t + 1 + 1) := ⟨fun i hi hj => by
    rcases Nat.lt_succ_iff_lt_or_eq.1 hj with h' | rfl
    · exact h.1 i hi h'
    · exact ho, fun i hi hj => by
    rcases Nat.lt_succ_iff_lt_or_eq.1 hj with h' | h'
    · exact h.2 i hi h'
    · obtain rfl : i = t := by omega
      exact hl⟩
theorem mayUp_end {l : List Atm} {j : Nat} (h : MayUp l j) (hj : l.length ≤ j) : mayL l = true :=
  (may_iff l).2 ⟨rising_of_adj fun i hi => h.2 i hi (by omega), fun x hx => by
    obtain ⟨i, hi, rfl⟩ := List.getElem_of_mem hx
    exact h.1 i hi (by omega)⟩
theorem may_not_ok {l : List Atm} {j : Nat} (hj : j < l.length) (ho : okA l[j] = false) : mayL l = false := by
  cases h : mayL l with
  | false => rfl
  | true => have := ((may_iff l).1 h).2 _ (List.getElem_mem hj); rw [ho] at this; cases this
theorem may_not_lt {l : List Atm} {t : Nat} (hj : t + 1 < l.length) (ho : ltA l[t] l[t + 1] = false) : mayL l = false := by
  cases h : mayL l with
  | false => rfl
  | true => have := rising_get ((may_iff l).1 h).1 (Nat.lt_succ_self t) hj; rw [ho] at this; cases this
/-- not falling from the j-th on -/
def SortedFrom (l : List Atm) (j : Nat) : Prop := ∀ i (h : i + 1 < l.length), j ≤ i → ltA l[i + 1] l[i] = false
def sortedB (l : List Atm) : Bool := decide (l.Pairwise fun x y => ltA y x = false)
theorem sorted_iff (l : List Atm) : sortedB l = true ↔ Steady l := by unfold sortedB Steady; exact decide_eq_true_iff
theorem steady_of_adj : ∀ {l : List Atm}, (∀ i (h : i + 1 < l.length), ltA l[i + 1] l[i] = false) → Steady l
  | [], _ => List.Pairwise.nil
  | [x], _ => by unfold Steady; simp
  | x :: y :: r, h => by
    have hr : Steady (y :: r) := steady_of_adj fun i hi => h (i + 1) (by simpa using hi)
    have hxy : ltA y x = false := h 0 (by simp)
    refine List.pairwise_cons.2 ⟨fun z hz => ?_, hr⟩
    rcases List.mem_cons.1 hz with e | e
    · rw [e]; exact hxy
    · have h2 := (List.pairwise_cons.1 hr).1 z e
      simp [ltA] at hxy h2 ⊢
      omega
theorem steady_get {l : List Atm} (h : Steady l) {i j : Nat} (hi : i < j) (hj : j < l.length) : ltA l[j] (l[i]'(by omega)) = false :=
  List.pairwise_iff_getElem.1 h i j (by omega) hj hi
theorem sorted_end {l : List Atm} (h : SortedFrom l 0) : sortedB l = true := (sorted_iff l).2 (steady_of_adj fun i hi => h i hi (Nat.zero_le _))
theorem sorted_not {l : List Atm} {t : Nat} (hj : t + 1 < l.length) (ho : ltA l[t + 1] l[t] = true) : sortedB l = false := by
  cases h : sortedB l with
  | false => rfl
  | true => have := steady_get ((sorted_iff l).1 h) (Nat.lt_succ_self t) hj; rw [ho] at this; cases this
/-- below x up to lo, not below it from hi on -/
def BsI (l : List Atm) (x : Atm) (lo hi : Nat) : Prop := (∀ t (h : t < l.length), t < lo → ltA l[t] x = true) ∧ (∀ t (h : t < l.length), hi ≤ t → ltA l[t] x = false)
theorem bs_start (l : List Atm) (x : Atm) : BsI l x 0 l.length := ⟨fun t _ h => absurd h (Nat.not_lt_zero _), fun t h1 h2 => absurd h1 (by omega)⟩
theorem bs_up {l : List Atm} {x : Atm} {lo hi m : Nat} (hs : Steady l) (h : BsI l x lo hi) (hm : m < l.length) (hl : ltA l[m] x = true) : BsI l x (m + 1) hi := ⟨fun t ht htm => by
    rcases Nat.lt_succ_iff_lt_or_eq.1 htm with h' | rfl
    · have := steady_get hs h' hm
      simp [ltA] at this hl ⊢
      omega
    · exact hl, h.2⟩
theorem bs_down {l : List Atm} {x : Atm} {lo hi m : Nat} (hs : Steady l) (h : BsI l x lo hi) (hm : m < l.length) (hl : ltA l[m] x = false) : BsI l x lo m := ⟨h.1, fun t ht htm => by
    rcases Nat.lt_or_eq_of_le htm with h' | rfl
    · have := steady_get hs h' ht
      simp [ltA] at this hl ⊢
      omega
    · exact hl⟩
theorem bs_out {l : List Atm} {x : Atm} {lo : Nat} (hs : Steady l) (h : BsI l x lo lo) (hn : ¬ lo < l.length) : has l x = false := by
  unfold has
  rw [decide_eq_false_iff_not]
  intro hx
  obtain ⟨i, hi, rfl⟩ := List.getElem_of_mem hx
  have := h.1 i hi (by omega)
  rw [lt_irrefl] at this; cases this
theorem bs_end {l : List Atm} {x : Atm} {lo : Nat} (hs : Steady l) (h : BsI l x lo lo) (hn : lo < l.length) : has l x = decide (l[lo] = x) := by
  unfold has
  rw [Bool.eq_iff_iff, decide_eq_true_iff, decide_eq_true_iff]
  constructor
  · intro hx
    obtain ⟨i, hi, rfl⟩ := List.getElem_of_mem hx
    have h1 := h.2 lo hn (Nat.le_refl _)
    rcases Nat.lt_trichotomy i lo with h' | h' | h'
    · have := h.1 i hi h'
      rw [lt_irrefl] at this; cases this
    · subst h'; rfl
    · exact lt_tri h1 (steady_get hs h' hi)
  · intro h; rw [← h]; exact List.getElem_mem hn
theorem sortedFrom_last (l : List Atm) (j : Nat) (h : l.length ≤ j + 1) : SortedFrom l j := fun i hi hj => absurd hi (by omega)
theorem sortedFrom_step {l : List Atm} {t : Nat} (h : SortedFrom l (t + 1)) (ht : t + 1 < l.length) (hl : ltA l[t + 1] l[t] = false) : SortedFrom l t := fun i hi hj => by
  rcases Nat.lt_or_eq_of_le hj with h' | rfl
  · exact h i hi h'
  · exact hl
end M
end Go.Proofs.YtbaaeobdjiglgaaGreat
