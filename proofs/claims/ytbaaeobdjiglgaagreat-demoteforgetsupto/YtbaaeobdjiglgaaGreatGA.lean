/-
  Atoms as mathematics: which may be, their order, rising lists, norms. Nothing of the program's code is walked here. No conditions.
-/
import Derived.Lib.ItoaNum
import Derived.Lib.Bytealg
set_option linter.unusedVariables false
namespace Go.Proofs.YtbaaeobdjiglgaaGreat
namespace M

/-- an atom -/
structure Atm where
  k : Int
  n : Int
  deriving DecidableEq, Inhabited

def okA (x : Atm) : Bool := if 3 ≤ x.k ∧ x.k ≤ 5 then decide (0 ≤ x.n) else decide (0 ≤ x.k ∧ x.k ≤ 6 ∧ x.n = 0)
def ltA (x y : Atm) : Bool := decide (x.k < y.k ∨ x.k = y.k ∧ x.n < y.n)

theorem ok_mid {x : Atm} (h1 : 3 ≤ x.k) (h2 : x.k ≤ 5) : decide (0 ≤ x.n) = okA x := by unfold okA; rw [if_pos ⟨h1, h2⟩]
theorem ok_out {x : Atm} (h : x.k < 3 ∨ 5 < x.k) (h1 : 0 ≤ x.k) (h2 : x.k ≤ 6) : (x.n == 0) = okA x := by
  unfold okA; rw [if_neg (by omega)]; simp [h1, h2]
  by_cases h : x.n = 0 <;> simp [h]
theorem ok_far {x : Atm} (h : x.k < 0 ∨ 6 < x.k) : false = okA x := by
  unfold okA; rw [if_neg (by omega)]; symm; rw [decide_eq_false_iff_not]; omega
theorem atm_ext {x y : Atm} (h1 : x.k = y.k) (h2 : x.n = y.n) : x = y := by
  cases x; cases y; simp at h1 h2; rw [h1, h2]
theorem lt_irrefl (x : Atm) : ltA x x = false := by simp [ltA]
theorem lt_trans {x y z : Atm} (h1 : ltA x y = true) (h2 : ltA y z = true) : ltA x z = true := by
  simp [ltA] at *; omega
theorem lt_asymm {x y : Atm} (h1 : ltA x y = true) : ltA y x = false := by
  simp [ltA] at *; omega
theorem lt_tri {x y : Atm} (h1 : ltA x y = false) (h2 : ltA y x = false) : x = y := by
  simp [ltA] at h1 h2; exact atm_ext (by omega) (by omega)
theorem lt_ne {x y : Atm} (h1 : ltA x y = true) : x ≠ y := fun h => by subst h; rw [lt_irrefl] at h1; cases h1

/-- each ahead of all behind it -/
def Rising (l : List Atm) : Prop := l.Pairwise fun x y => ltA x y = true

theorem rising_ext : ∀ {l m : List Atm}, Rising l → Rising m → (∀ x, x ∈ l ↔ x ∈ m) → l = m
  | [], [], _, _, _ => rfl
  | [], y :: m, _, _, h => absurd ((h y).2 (List.mem_cons_self ..)) (by simp)
  | x :: l, [], _, _, h => absurd ((h x).1 (List.mem_cons_self ..)) (by simp)
  | x :: l, y :: m, h1, h2, h => by
    have a := List.pairwise_cons.1 h1
    have b := List.pairwise_cons.1 h2
    have hx : x = y := by
      rcases List.mem_cons.1 ((h x).1 (List.mem_cons_self ..)) with e | e
      · exact e
      · rcases List.mem_cons.1 ((h y).2 (List.mem_cons_self ..)) with f | f
        · exact f.symm
        · have := lt_asymm (b.1 x e); rw [a.1 y f] at this; cases this
    subst hx
    have : l = m := rising_ext a.2 b.2 fun z => by
      constructor
      · intro hz
        rcases List.mem_cons.1 ((h z).1 (List.mem_cons_of_mem _ hz)) with e | e
        · exact absurd e.symm (lt_ne (a.1 z hz))
        · exact e
      · intro hz
        rcases List.mem_cons.1 ((h z).2 (List.mem_cons_of_mem _ hz)) with e | e
        · exact absurd e.symm (lt_ne (b.1 z hz))
        · exact e
    rw [this]

/-- an atom more, ahead of the first that it is less than -/
def put (x : Atm) : List Atm → List Atm
  | [] => [x]
  | y :: r => if ltA x y then x :: y :: r else y :: put x r
def has (l : List Atm) (x : Atm) : Bool := decide (x ∈ l)
def add (l : List Atm) (x : Atm) : List Atm := if okA x && !has l x then put x l else l
def norm (l : List Atm) : List Atm := l.foldl add []

theorem mem_put (x z : Atm) : ∀ l, z ∈ put x l ↔ z = x ∨ z ∈ l
  | [] => by simp [put]
  | y :: r => by
    unfold put
    split
    · simp
    · rw [List.mem_cons, mem_put x z r, List.mem_cons]
      constructor
      · rintro (h | h | h) <;> simp [h]
      · rintro (h | h | h) <;> simp [h]
theorem put_length (x : Atm) : ∀ l, (put x l).length = l.length + 1
  | [] => rfl
  | y :: r => by
    unfold put
    split
    · rfl
    · rw [List.length_cons, put_length x r, List.length_cons]
theorem rising_put (x : Atm) : ∀ l, Rising l → x ∉ l → Rising (put x l)
  | [], _, _ => by unfold put Rising; simp
  | y :: r, h, hx => by
    have a := List.pairwise_cons.1 h
    unfold put
    split
    · rename_i hlt
      refine List.pairwise_cons.2 ⟨fun z hz => ?_, h⟩
      rcases List.mem_cons.1 hz with e | e
      · rw [e]; exact hlt
      · exact lt_trans hlt (a.1 z e)
    · rename_i hlt
      refine List.pairwise_cons.2 ⟨fun z hz => ?_, rising_put x r a.2 fun e => hx (List.mem_cons_of_mem _ e)⟩
      rcases (mem_put x z r).1 hz with e | e
      · subst e
        cases hyx : ltA y z with
        | true => rfl
        | false => exact absurd (lt_tri (by simpa using hlt) hyx) fun e => hx (by rw [e]; exact List.mem_cons_self ..)
      · exact a.1 z e

theorem mem_add (l : List Atm) (x z : Atm) : z ∈ add l x ↔ z ∈ l ∨ z = x ∧ okA x = true := by
  unfold add
  cases ho : okA x with
  | false => simp
  | true =>
    cases hh : has l x with
    | false =>
      simp only [Bool.not_false, Bool.and_self, if_true, mem_put]
      constructor
      · rintro (h | h)
        · exact .inr ⟨h, trivial⟩
        · exact .inl h
      · rintro (h | ⟨h, _⟩)
        · exact .inr h
        · exact .inl h
    | true =>
      have hm : x ∈ l := of_decide_eq_true hh
      simp only [Bool.not_true, Bool.and_false, Bool.false_eq_true, if_false]
      constructor
      · exact .inl
      · rintro (h | ⟨h, _⟩)
        · exact h
        · rw [h]; exact hm
theorem rising_add (l : List Atm) (x : Atm) (h : Rising l) : Rising (add l x) := by
  unfold add
  split
  · rename_i hc
    refine rising_put x l h fun e => ?_
    simp [has, e] at hc
  · exact h
theorem add_length (l : List Atm) (x : Atm) : (add l x).length ≤ l.length + 1 := by
  unfold add
  split
  · rw [put_length]; exact Nat.le_refl _
  · omega
theorem fold_norm : ∀ (l acc : List Atm), Rising acc → Rising (l.foldl add acc) ∧ (∀ z, z ∈ l.foldl add acc ↔ z ∈ acc ∨ z ∈ l ∧ okA z = true) ∧ (l.foldl add acc).length ≤ acc.length + l.length
  | [], acc, h => ⟨h, fun z => by simp, by simp⟩
  | x :: l, acc, h => by
    obtain ⟨h1, h2, h3⟩ := fold_norm l (add acc x) (rising_add acc x h)
    refine ⟨h1, fun z => ?_, ?_⟩
    · rw [List.foldl_cons, h2, mem_add, List.mem_cons]
      constructor
      · rintro ((h | ⟨rfl, h⟩) | ⟨h, h'⟩)
        · exact .inl h
        · exact .inr ⟨.inl rfl, h⟩
        · exact .inr ⟨.inr h, h'⟩
      · rintro (h | ⟨rfl | h, h'⟩)
        · exact .inl (.inl h)
        · exact .inl (.inr ⟨rfl, h'⟩)
        · exact .inr ⟨h, h'⟩
    · rw [List.foldl_cons, List.length_cons]
      have := add_length acc x
      omega
theorem norm_rising (l : List Atm) : Rising (norm l) := (fold_norm l [] List.Pairwise.nil).1
theorem mem_norm (l : List Atm) (z : Atm) : z ∈ norm l ↔ z ∈ l ∧ okA z = true := by
  unfold norm; rw [(fold_norm l [] List.Pairwise.nil).2.1]; simp
theorem norm_length (l : List Atm) : (norm l).length ≤ l.length := by
  have := (fold_norm l [] List.Pairwise.nil).2.2
  unfold norm; simpa using this
/-- the one rising list of those of l that may be -/
theorem norm_eq {l s : List Atm} (h : Rising s) (hm : ∀ z, z ∈ s ↔ z ∈ l ∧ okA z = true) : s = norm l :=
  rising_ext h (norm_rising l) fun z => by rw [hm, mem_norm]
theorem norm_append (a b : List Atm) : norm (a ++ b) = b.foldl add (norm a) := by unfold norm; rw [List.foldl_append]

def mayL (l : List Atm) : Bool := decide (l = norm l)
theorem may_iff (l : List Atm) : mayL l = true ↔ Rising l ∧ ∀ x ∈ l, okA x = true := by
  unfold mayL
  rw [decide_eq_true_iff]
  constructor
  · intro h
    refine ⟨by rw [h]; exact norm_rising l, fun x hx => ?_⟩
    rw [h] at hx
    exact ((mem_norm l x).1 hx).2
  · rintro ⟨h1, h2⟩
    exact norm_eq h1 fun z => ⟨fun h => ⟨h, h2 z h⟩, fun h => h.1⟩
theorem may_norm (l : List Atm) : mayL (norm l) = true := (may_iff _).2 ⟨norm_rising l, fun x hx => ((mem_norm l x).1 hx).2⟩

theorem rising_of_adj : ∀ {l : List Atm}, (∀ i (h : i + 1 < l.length), ltA l[i] l[i + 1] = true) → Rising l
  | [], _ => List.Pairwise.nil
  | [x], _ => by unfold Rising; simp
  | x :: y :: r, h => by
    have hr : Rising (y :: r) := rising_of_adj fun i hi => h (i + 1) (by simpa using hi)
    have hxy : ltA x y = true := h 0 (by simp)
    refine List.pairwise_cons.2 ⟨fun z hz => ?_, hr⟩
    rcases List.mem_cons.1 hz with e | e
    · rw [e]; exact hxy
    · exact lt_trans hxy ((List.pairwise_cons.1 hr).1 z e)
theorem rising_get {l : List Atm} (h : Rising l) {i j : Nat} (hi : i < j) (hj : j < l.length) : ltA (l[i]'(by omega)) l[j] = true :=
  List.pairwise_iff_getElem.1 h i j (by omega) hj hi

def within (a b : List Atm) : Bool := a.all fun x => has b x
theorem within_iff (a b : List Atm) : within a b = true ↔ ∀ x ∈ a, x ∈ b := by
  simp [within, has]
def ren (site : Int) (x : Atm) : Atm := if x.k = 4 ∧ x.n = site then ⟨5, x.n⟩ else x
def rename (l : List Atm) (site : Int) : List Atm := norm (l.map (ren site))
theorem has_iff (l : List Atm) (x : Atm) : has l x = true ↔ x ∈ l := by simp [has]
def sameB (a b : List Atm) : Bool := decide (a = b)

/-! What the laws say. -/
theorem ok_ren (s : Int) (x : Atm) : okA (ren s x) = okA x := by
  unfold ren
  split
  · rename_i h; simp [okA, h.1]
  · rfl
theorem union_may (a b : List Atm) : mayL (norm (a ++ b)) = true := may_norm _
theorem mem_union (a b : List Atm) (z : Atm) : z ∈ norm (a ++ b) ↔ (z ∈ a ∨ z ∈ b) ∧ okA z = true := by rw [mem_norm, List.mem_append]
theorem union_comm (a b : List Atm) : norm (a ++ b) = norm (b ++ a) :=
  rising_ext (norm_rising _) (norm_rising _) fun z => by rw [mem_union, mem_union, or_comm]
theorem union_again (a b : List Atm) : norm (a ++ b) = norm (norm (a ++ b) ++ a) :=
  rising_ext (norm_rising _) (norm_rising _) fun z => by
    rw [mem_union, mem_union, mem_union]
    constructor
    · rintro ⟨h, h'⟩; exact ⟨.inl ⟨h, h'⟩, h'⟩
    · rintro ⟨h | h, h'⟩
      · exact h
      · exact ⟨.inl h, h'⟩
theorem union_assoc (a b c : List Atm) : norm (norm (a ++ b) ++ c) = norm (a ++ norm (b ++ c)) :=
  rising_ext (norm_rising _) (norm_rising _) fun z => by
    rw [mem_union, mem_union, mem_union, mem_union]
    constructor
    · rintro ⟨⟨h | h, h'⟩ | h, h''⟩
      · exact ⟨.inl h, h''⟩
      · exact ⟨.inr ⟨.inl h, h''⟩, h''⟩
      · exact ⟨.inr ⟨.inr h, h''⟩, h''⟩
    · rintro ⟨h | ⟨h | h, h'⟩, h''⟩
      · exact ⟨.inl ⟨.inl h, h''⟩, h''⟩
      · exact ⟨.inl ⟨.inr h, h''⟩, h''⟩
      · exact ⟨.inr h, h''⟩
theorem within_left {a : List Atm} (b : List Atm) (h : mayL a = true) : within a (norm (a ++ b)) = true :=
  (within_iff _ _).2 fun x hx => (mem_union _ _ _).2 ⟨.inl hx, ((may_iff a).1 h).2 x hx⟩
theorem within_right (a : List Atm) {b : List Atm} (h : mayL b = true) : within b (norm (a ++ b)) = true :=
  (within_iff _ _).2 fun x hx => (mem_union _ _ _).2 ⟨.inr hx, ((may_iff b).1 h).2 x hx⟩
theorem union_least {a b c : List Atm} (h1 : within a c = true) (h2 : within b c = true) : within (norm (a ++ b)) c = true :=
  (within_iff _ _).2 fun x hx => by
    rcases ((mem_union _ _ _).1 hx).1 with h | h
    · exact (within_iff _ _).1 h1 x h
    · exact (within_iff _ _).1 h2 x h
theorem both_within {a b : List Atm} (ha : mayL a = true) (hb : mayL b = true) : (within a b && within b a) = sameB a b := by
  rw [Bool.eq_iff_iff, Bool.and_eq_true, within_iff, within_iff, sameB, decide_eq_true_iff]
  constructor
  · rintro ⟨h1, h2⟩
    exact rising_ext ((may_iff a).1 ha).1 ((may_iff b).1 hb).1 fun z => ⟨h1 z, h2 z⟩
  · rintro rfl; exact ⟨fun _ h => h, fun _ h => h⟩
theorem mem_rename (l : List Atm) (s : Int) (z : Atm) : z ∈ rename l s ↔ (∃ x ∈ l, ren s x = z) ∧ okA z = true := by
  unfold rename; rw [mem_norm, List.mem_map]
theorem ren_not (s : Int) (x : Atm) : ren s x ≠ ⟨4, s⟩ := by
  unfold ren
  split
  · simp
  · rename_i h; intro e; exact h (by rw [e]; exact ⟨rfl, rfl⟩)
theorem ren_ren (s : Int) (x : Atm) : ren s (ren s x) = ren s x := by
  have := ren_not s x
  generalize ren s x = y at *
  unfold ren
  rw [if_neg]
  rintro ⟨h1, h2⟩
  exact this (atm_ext h1 h2)
theorem rename_has (l : List Atm) (s : Int) : has (rename l s) ⟨4, s⟩ = false := by
  unfold has
  rw [decide_eq_false_iff_not, mem_rename]
  rintro ⟨⟨x, _, h⟩, _⟩
  exact ren_not s x h
theorem rename_again (l : List Atm) (s : Int) : rename (rename l s) s = rename l s :=
  rising_ext (norm_rising _) (norm_rising _) fun z => by
    rw [mem_rename]
    constructor
    · rintro ⟨⟨x, hx, rfl⟩, ho⟩
      obtain ⟨⟨y, hy, rfl⟩, h2⟩ := (mem_rename _ _ _).1 hx
      exact (mem_rename _ _ _).2 ⟨⟨y, hy, (ren_ren s y).symm⟩, ho⟩
    · intro hz
      obtain ⟨⟨y, hy, rfl⟩, h2⟩ := (mem_rename _ _ _).1 hz
      exact ⟨⟨ren s y, hz, ren_ren s y⟩, h2⟩
theorem rename_within {a b : List Atm} (s : Int) (h : within a b = true) : within (rename a s) (rename b s) = true :=
  (within_iff _ _).2 fun z hz => by
    obtain ⟨⟨x, hx, e⟩, ho⟩ := (mem_rename _ _ _).1 hz
    exact (mem_rename _ _ _).2 ⟨⟨x, (within_iff _ _).1 h x hx, e⟩, ho⟩
theorem rename_union (a b : List Atm) (s : Int) : rename (norm (a ++ b)) s = norm (rename a s ++ rename b s) :=
  rising_ext (norm_rising _) (norm_rising _) fun z => by
    rw [mem_rename, mem_union, mem_rename, mem_rename]
    constructor
    · rintro ⟨⟨x, hx, rfl⟩, ho⟩
      rcases ((mem_union _ _ _).1 hx).1 with h | h
      · exact ⟨.inl ⟨⟨x, h, rfl⟩, ho⟩, ho⟩
      · exact ⟨.inr ⟨⟨x, h, rfl⟩, ho⟩, ho⟩
    · rintro ⟨⟨⟨x, hx, rfl⟩, ho⟩ | ⟨⟨x, hx, rfl⟩, ho⟩, _⟩
      · exact ⟨⟨x, (mem_union _ _ _).2 ⟨.inl hx, by rw [ok_ren] at ho; exact ho⟩, rfl⟩, ho⟩
      · exact ⟨⟨x, (mem_union _ _ _).2 ⟨.inr hx, by rw [ok_ren] at ho; exact ho⟩, rfl⟩, ho⟩
theorem rename_none {a : List Atm} (s : Int) (ha : mayL a = true) (h : has a ⟨4, s⟩ = false) : rename a s = a := by
  have hn : (⟨4, s⟩ : Atm) ∉ a := by simpa [has] using h
  have : a.map (ren s) = a := by
    conv => rhs; rw [← List.map_id a]
    refine List.map_congr_left fun x hx => ?_
    unfold ren
    rw [if_neg]
    · rfl
    · rintro ⟨h1, h2⟩
      exact hn (by rw [show (⟨4, s⟩ : Atm) = x from (atm_ext h1 h2).symm]; exact hx)
  unfold rename
  rw [this]
  exact (of_decide_eq_true ha).symm
theorem in_union (a b : List Atm) {x : Atm} (hx : okA x = true) : has (norm (a ++ b)) x = (has a x || has b x) := by
  rw [Bool.eq_iff_iff, Bool.or_eq_true, has_iff, has_iff, has_iff, mem_union]
  exact ⟨fun h => h.1, fun h => ⟨h, hx⟩⟩
theorem within_one (a : List Atm) (x : Atm) : within [x] a = has a x := by simp [within]
theorem within_union {a b : List Atm} (ha : mayL a = true) : within (norm (a ++ b)) b = within a b := by
  rw [Bool.eq_iff_iff, within_iff, within_iff]
  constructor
  · intro h x hx
    exact h x ((mem_union _ _ _).2 ⟨.inl hx, ((may_iff a).1 ha).2 x hx⟩)
  · intro h x hx
    rcases ((mem_union _ _ _).1 hx).1 with h' | h'
    · exact h x h'
    · exact h'
theorem may_one {x : Atm} (h : mayL [x] = true) : okA x = true := ((may_iff _).1 h).2 x (List.mem_cons_self ..)

/-! What the program does: sorted, and each but once. -/
/-- each once, of those that stand side by side -/
def cpl (l : List Atm) : List Atm := l.foldl (fun acc x => if acc.getLast? = some x then acc else acc ++ [x]) []
theorem cpl_snoc (l : List Atm) (x : Atm) : cpl (l ++ [x]) = if (cpl l).getLast? = some x then cpl l else cpl l ++ [x] := by
  unfold cpl; rw [List.foldl_append]; rfl
theorem cpl_last (l : List Atm) (x : Atm) : (cpl (l ++ [x])).getLast? = some x := by
  rw [cpl_snoc]
  split
  · assumption
  · simp
theorem cpl_step {l : List Atm} {j : Nat} (h : j + 1 < l.length) : cpl (l.take (j + 2)) = if l[j] = l[j + 1] then cpl (l.take (j + 1)) else cpl (l.take (j + 1)) ++ [l[j + 1]] := by
  rw [List.take_succ_eq_append_getElem h, cpl_snoc]
  have : (cpl (l.take (j + 1))).getLast? = some l[j] := by
    rw [List.take_succ_eq_append_getElem (by omega : j < l.length)]; exact cpl_last _ _
  rw [this]
  simp only [Option.some.injEq]
theorem cpl_one {l : List Atm} (h : 0 < l.length) : cpl (l.take 1) = l.take 1 := by
  cases l with
  | nil => simp at h
  | cons x r => simp [cpl]
theorem cpl_short {l : List Atm} (h : l.length < 2) : cpl l = l := by
  match l, h with
  | [], _ => rfl
  | [x], _ => simp [cpl]
theorem mem_cpl (z : Atm) : ∀ l : List Atm, z ∈ cpl l ↔ z ∈ l := by
  have key : ∀ (l acc : List Atm), z ∈ l.foldl (fun acc x => if acc.getLast? = some x then acc else acc ++ [x]) acc ↔ z ∈ acc ∨ z ∈ l := by
    intro l
    induction l with
    | nil => intro acc; simp
    | cons x r ih =>
      intro acc
      rw [List.foldl_cons, ih, List.mem_cons]
      split
      · rename_i h
        have hx : x ∈ acc := List.mem_of_getLast? h
        constructor
        · rintro (h | h)
          · exact .inl h
          · exact .inr (.inr h)
        · rintro (h | rfl | h)
          · exact .inl h
          · exact .inl hx
          · exact .inr h
      · rw [List.mem_append, List.mem_singleton, or_assoc]
  intro l
  unfold cpl
  rw [key]; simp
theorem cpl_length : ∀ l : List Atm, (cpl l).length ≤ l.length := by
  have key : ∀ (l acc : List Atm), (l.foldl (fun acc x => if acc.getLast? = some x then acc else acc ++ [x]) acc).length ≤ acc.length + l.length := by
    intro l
    induction l with
    | nil => intro acc; simp
    | cons x r ih =>
      intro acc
      rw [List.foldl_cons, List.length_cons]
      refine Nat.le_trans (ih _) ?_
      split
      · omega
      · simp; omega
  intro l
  have := key l []
  unfold cpl; simpa using this
/-- not falling -/
def Steady (l : List Atm) : Prop := l.Pairwise fun x y => ltA y x = false
theorem cpl_rising {l : List Atm} (h : Steady l) : Rising (cpl l) := by
  have key : ∀ (l acc : List Atm), Steady l → Rising acc → (∀ x ∈ acc, ∀ y ∈ l, ltA y x = false) → Rising (l.foldl (fun acc x => if acc.getLast? = some x then acc else acc ++ [x]) acc) := by
    intro l
    induction l with
    | nil => intro acc _ h _; exact h
    | cons x r ih =>
      intro acc hs hr hc
      have hs' := List.pairwise_cons.1 hs
      rw [List.foldl_cons]
      split
      · exact ih acc hs'.2 hr fun a ha y hy => hc a ha y (List.mem_cons_of_mem _ hy)
      · rename_i hne
        have hlt : ∀ a ∈ acc, ltA a x = true := fun a ha => by
          cases h1 : ltA a x with
          | true => rfl
          | false =>
            have e : a = x := lt_tri h1 (hc a ha x (List.mem_cons_self ..))
            exfalso
            subst e
            -- a is in acc, and not its last: then the last is above a
            cases hl : acc.getLast? with
            | none => rw [List.getLast?_eq_none_iff] at hl; subst hl; simp at ha
            | some b =>
              have hb : b ≠ a := fun e => hne (by rw [hl, e])
              obtain ⟨m, hm⟩ := List.getLast?_eq_some_iff.1 hl
              subst hm
              rcases List.mem_append.1 ha with h2 | h2
              · have := (List.pairwise_append.1 hr).2.2 a h2 b (List.mem_singleton.2 rfl)
                rw [hc b (by simp) a (List.mem_cons_self ..)] at this; cases this
              · exact hb (List.mem_singleton.1 h2).symm
        refine ih _ hs'.2 (List.pairwise_append.2 ⟨hr, by simp, fun a ha b hb => by rw [List.mem_singleton.1 hb]; exact hlt a ha⟩) fun a ha y hy => ?_
        rcases List.mem_append.1 ha with h2 | h2
        · exact hc a h2 y (List.mem_cons_of_mem _ hy)
        · rw [List.mem_singleton.1 h2]; exact hs'.1 y hy
  exact key l [] h List.Pairwise.nil fun _ h => by simp at h
/-- sorted, then each once: the norm -/
theorem cpl_norm {l d : List Atm} (hs : Steady d) (hm : ∀ z, z ∈ d ↔ z ∈ l ∧ okA z = true) : cpl d = norm l :=
  norm_eq (cpl_rising hs) fun z => by rw [mem_cpl, hm]
/-! How far a list may be. -/
/-- the first j of them may be, and rise -/
def MayUp (l : List Atm) (j : Nat) : Prop := (∀ i (h : i < l.length), i < j → okA l[i] = true) ∧ (∀ i (h : i + 1 < l.length), i + 1 < j → ltA l[i] l[i + 1] = true)
theorem mayUp_zero (l : List Atm) : MayUp l 0 := ⟨fun i _ h => absurd h (Nat.not_lt_zero _), fun i _ h => absurd h (Nat.not_lt_zero _)⟩
theorem mayUp_first {l : List Atm} (h : 0 < l.length) (ho : okA l[0] = true) : MayUp l 1 := ⟨fun i hi h => by
    obtain rfl : i = 0 := by omega
    exact ho, fun i _ h => absurd h (by omega)⟩
theorem mayUp_step {l : List Atm} {t : Nat} (h : MayUp l (t + 1)) (ht : t + 1 < l.length) (ho : okA l[t + 1] = true) (hl : ltA l[t] l[t + 1] = true) : MayUp l (t + 1 + 1) := ⟨fun i hi hj => by
    rcases Nat.lt_succ_iff_lt_or_eq.1 hj with h' | rfl
    · exact h.1 i hi h'
    · exact ho, fun i hi hj => by
    rcases Nat.lt_succ_iff_lt_or_eq.1 hj with h' | h'
    · exact h.2 i hi h'
    · obtain rfl : i = t := by omega
      exact hl⟩
theorem mayUp_end {l : List Atm} {j : Nat} (h : MayUp l j) (hj : l.length ≤ j) : mayL l = true :=
  (may_iff l).2 ⟨rising_of_adj fun i hi => h.2 i hi (by omega), fun x hx => by
    obtain ⟨i, hi, rfl⟩ := List.getElem_of_mem hx
    exact h.1 i hi (by omega)⟩
theorem may_not_ok {l : List Atm} {j : Nat} (hj : j < l.length) (ho : okA l[j] = false) : mayL l = false := by
  cases h : mayL l with
  | false => rfl
  | true => have := ((may_iff l).1 h).2 _ (List.getElem_mem hj); rw [ho] at this; cases this
theorem may_not_lt {l : List Atm} {t : Nat} (hj : t + 1 < l.length) (ho : ltA l[t] l[t + 1] = false) : mayL l = false := by
  cases h : mayL l with
  | false => rfl
  | true => have := rising_get ((may_iff l).1 h).1 (Nat.lt_succ_self t) hj; rw [ho] at this; cases this
/-- not falling from the j-th on -/
def SortedFrom (l : List Atm) (j : Nat) : Prop := ∀ i (h : i + 1 < l.length), j ≤ i → ltA l[i + 1] l[i] = false
def sortedB (l : List Atm) : Bool := decide (l.Pairwise fun x y => ltA y x = false)
theorem sorted_iff (l : List Atm) : sortedB l = true ↔ Steady l := by unfold sortedB Steady; exact decide_eq_true_iff
theorem steady_of_adj : ∀ {l : List Atm}, (∀ i (h : i + 1 < l.length), ltA l[i + 1] l[i] = false) → Steady l
  | [], _ => List.Pairwise.nil
  | [x], _ => by unfold Steady; simp
  | x :: y :: r, h => by
    have hr : Steady (y :: r) := steady_of_adj fun i hi => h (i + 1) (by simpa using hi)
    have hxy : ltA y x = false := h 0 (by simp)
    refine List.pairwise_cons.2 ⟨fun z hz => ?_, hr⟩
    rcases List.mem_cons.1 hz with e | e
    · rw [e]; exact hxy
    · have h2 := (List.pairwise_cons.1 hr).1 z e
      simp [ltA] at hxy h2 ⊢
      omega
theorem steady_get {l : List Atm} (h : Steady l) {i j : Nat} (hi : i < j) (hj : j < l.length) : ltA l[j] (l[i]'(by omega)) = false :=
  List.pairwise_iff_getElem.1 h i j (by omega) hj hi
theorem sorted_end {l : List Atm} (h : SortedFrom l 0) : sortedB l = true := (sorted_iff l).2 (steady_of_adj fun i hi => h i hi (Nat.zero_le _))
theorem sorted_not {l : List Atm} {t : Nat} (hj : t + 1 < l.length) (ho : ltA l[t + 1] l[t] = true) : sortedB l = false := by
  cases h : sortedB l with
  | false => rfl
  | true => have := steady_get ((sorted_iff l).1 h) (Nat.lt_succ_self t) hj; rw [ho] at this; cases this
/-- below x up to lo, not below it from hi on -/
def BsI (l : List Atm) (x : Atm) (lo hi : Nat) : Prop := (∀ t (h : t < l.length), t < lo → ltA l[t] x = true) ∧ (∀ t (h : t < l.length), hi ≤ t → ltA l[t] x = false)
theorem bs_start (l : List Atm) (x : Atm) : BsI l x 0 l.length := ⟨fun t _ h => absurd h (Nat.not_lt_zero _), fun t h1 h2 => absurd h1 (by omega)⟩
theorem bs_up {l : List Atm} {x : Atm} {lo hi m : Nat} (hs : Steady l) (h : BsI l x lo hi) (hm : m < l.length) (hl : ltA l[m] x = true) : BsI l x (m + 1) hi := ⟨fun t ht htm => by
    rcases Nat.lt_succ_iff_lt_or_eq.1 htm with h' | rfl
    · have := steady_get hs h' hm
      simp [ltA] at this hl ⊢
      omega
    · exact hl, h.2⟩
theorem bs_down {l : List Atm} {x : Atm} {lo hi m : Nat} (hs : Steady l) (h : BsI l x lo hi) (hm : m < l.length) (hl : ltA l[m] x = false) : BsI l x lo m := ⟨h.1, fun t ht htm => by
    rcases Nat.lt_or_eq_of_le htm with h' | rfl
    · have := steady_get hs h' ht
      simp [ltA] at this hl ⊢
      omega
    · exact hl⟩
theorem bs_out {l : List Atm} {x : Atm} {lo : Nat} (hs : Steady l) (h : BsI l x lo lo) (hn : ¬ lo < l.length) : has l x = false := by
  unfold has
  rw [decide_eq_false_iff_not]
  intro hx
  obtain ⟨i, hi, rfl⟩ := List.getElem_of_mem hx
  have := h.1 i hi (by omega)
  rw [lt_irrefl] at this; cases this
theorem bs_end {l : List Atm} {x : Atm} {lo : Nat} (hs : Steady l) (h : BsI l x lo lo) (hn : lo < l.length) : has l x = decide (l[lo] = x) := by
  unfold has
  rw [Bool.eq_iff_iff, decide_eq_true_iff, decide_eq_true_iff]
  constructor
  · intro hx
    obtain ⟨i, hi, rfl⟩ := List.getElem_of_mem hx
    have h1 := h.2 lo hn (Nat.le_refl _)
    rcases Nat.lt_trichotomy i lo with h' | h' | h'
    · have := h.1 i hi h'
      rw [lt_irrefl] at this; cases this
    · subst h'; rfl
    · exact lt_tri h1 (steady_get hs h' hi)
  · intro h; rw [← h]; exact List.getElem_mem hn
theorem sortedFrom_last (l : List Atm) (j : Nat) (h : l.length ≤ j + 1) : SortedFrom l j := fun i hi hj => absurd hi (by omega)
theorem sortedFrom_step {l : List Atm} {t : Nat} (h : SortedFrom l (t + 1)) (ht : t + 1 < l.length) (hl : ltA l[t + 1] l[t] = false) : SortedFrom l t := fun i hi hj => by
  rcases Nat.lt_or_eq_of_le hj with h' | rfl
  · exact h i hi h'
  · exact hl
end M
end Go.Proofs.YtbaaeobdjiglgaaGreat

/-
  Texts of atoms as mathematics: the words, their lists, and that unlike lists have unlike texts. Nothing of the program's code is walked here. No conditions.
-/
set_option linter.unusedVariables false
namespace Go.Proofs.YtbaaeobdjiglgaaGreat
namespace M
theorem bytes_ext {a b : ByteArray} (h : a.data.toList = b.data.toList) : a = b := by
  obtain ⟨⟨x⟩⟩ := a
  obtain ⟨⟨y⟩⟩ := b
  simp only at h
  rw [h]
def wordB (x : Atm) : List UInt8 :=
  if x.k = 0 then [110, 117, 108, 108] else if x.k = 1 then [98, 111, 111, 108] else if x.k = 2 then [110, 117, 109]
  else if x.k = 3 then [102, 117, 110] ++ Lib.itoa x.n else if x.k = 4 then [114, 101, 99] ++ Lib.itoa x.n else if x.k = 5 then [115, 117, 109] ++ Lib.itoa x.n
  else if x.k = 6 then [97, 110, 121] else [63]
def tailB (r : List (List UInt8)) : List UInt8 := r.flatMap fun y => 32 :: y
def joinB : List (List UInt8) → List UInt8
  | [] => []
  | x :: r => x ++ tailB r
def textB (l : List Atm) : List UInt8 := joinB (l.map wordB)
theorem join_snoc (x : List UInt8) (r : List (List UInt8)) (y : List UInt8) : joinB ((x :: r) ++ [y]) = joinB (x :: r) ++ 32 :: y := by
  simp [joinB, tailB]
theorem text_first {l : List Atm} (h : 0 < l.length) : textB (l.take (0 + 1)) = wordB l[0] := by
  cases l with
  | nil => simp at h
  | cons x r => simp [textB, joinB, tailB]
theorem text_step {l : List Atm} {j : Nat} (hj : j < l.length) (h0 : 0 < j) : textB (l.take (j + 1)) = textB (l.take j) ++ 32 :: wordB l[j] := by
  unfold textB
  rw [List.take_succ_eq_append_getElem hj, List.map_append]
  cases l with
  | nil => simp at hj
  | cons x r =>
    obtain ⟨i, rfl⟩ : ∃ i, j = i + 1 := ⟨j - 1, by omega⟩
    rw [List.take_succ_cons, List.map_cons]
    exact join_snoc _ _ _
theorem nDigits_le : ∀ (k u : Nat), 1 ≤ k → u < 10 ^ k → Lib.nDigits u ≤ k
  | 0, u, h, _ => absurd h (by omega)
  | 1, u, _, h => by rw [Lib.nDigits_small (by omega)]; exact Nat.le_refl _
  | k + 2, u, _, h => by
    by_cases hu : u < 10
    · rw [Lib.nDigits_small hu]; omega
    · rw [Lib.nDigits_big hu]
      have := nDigits_le (k + 1) (u / 10) (by omega) (by
        rw [Nat.pow_succ] at h
        exact Nat.div_lt_of_lt_mul (by rw [Nat.mul_comm]; exact h))
      omega
theorem itoa_le {n : Int} (h1 : -9223372036854775808 ≤ n) (h2 : n ≤ 9223372036854775807) : (Lib.itoa n).length ≤ 21 := by
  unfold Lib.itoa
  split
  · rw [List.length_cons, Lib.decDigits_length]
    have := nDigits_le 20 n.natAbs (by omega) (by omega)
    omega
  · rw [Lib.decDigits_length]
    have := nDigits_le 20 n.toNat (by omega) (by omega)
    omega
theorem word_le {x : Atm} (h1 : -9223372036854775808 ≤ x.n) (h2 : x.n ≤ 9223372036854775807) : (wordB x).length ≤ 24 := by
  have := itoa_le h1 h2
  unfold wordB
  split
  · simp
  · split
    · simp
    · split
      · simp
      · split
        · simp; omega
        · split
          · simp; omega
          · split
            · simp; omega
            · split <;> simp
theorem text_le {l : List Atm} (h : ∀ x ∈ l, -9223372036854775808 ≤ x.n ∧ x.n ≤ 9223372036854775807) : (textB l).length ≤ 25 * l.length := by
  have key : ∀ l : List Atm, (∀ x ∈ l, -9223372036854775808 ≤ x.n ∧ x.n ≤ 9223372036854775807) → (tailB (l.map wordB)).length ≤ 25 * l.length := by
    intro l
    induction l with
    | nil => intro _; simp [tailB]
    | cons x r ih =>
      intro h
      have h1 := ih fun y hy => h y (List.mem_cons_of_mem _ hy)
      have h2 := h x (List.mem_cons_self ..)
      have h3 := word_le h2.1 h2.2
      simp only [tailB, List.map_cons, List.flatMap_cons, List.length_append, List.length_cons] at h1 ⊢
      omega
  cases l with
  | nil => simp [textB, joinB]
  | cons x r =>
    have h1 := key r fun y hy => h y (List.mem_cons_of_mem _ hy)
    have h2 := h x (List.mem_cons_self ..)
    have h3 := word_le h2.1 h2.2
    simp only [textB, joinB, List.map_cons, List.length_append, List.length_cons]
    omega

/-! unlike lists, unlike texts -/
theorem digit_toNat {d : Nat} (h : d < 10) : (UInt8.ofNat (48 + d)).toNat = 48 + d := by
  rw [UInt8.toNat_ofNat']; omega
theorem digits_range (u : Nat) : ∀ c ∈ Lib.decDigits u, 48 ≤ c.toNat ∧ c.toNat ≤ 57 := by
  induction u using Nat.strongRecOn with
  | _ u ih =>
    intro c hc
    rw [Lib.decDigits] at hc
    split at hc
    · rename_i h
      rw [List.mem_singleton] at hc
      rw [hc, digit_toNat h]; omega
    · rename_i h
      rcases List.mem_append.1 hc with h1 | h1
      · exact ih (u / 10) (by omega) c h1
      · rw [List.mem_singleton] at h1
        rw [h1, digit_toNat (by omega)]; omega
def valD (l : List UInt8) : Nat := l.foldl (fun a c => a * 10 + (c.toNat - 48)) 0
theorem val_digits (u : Nat) : valD (Lib.decDigits u) = u := by
  induction u using Nat.strongRecOn with
  | _ u ih =>
    rw [Lib.decDigits]
    split
    · rename_i h
      simp only [valD, List.foldl_cons, List.foldl_nil]
      rw [digit_toNat h]; omega
    · rename_i h
      have := ih (u / 10) (by omega)
      unfold valD at this ⊢
      rw [List.foldl_append, this, List.foldl_cons, List.foldl_nil, digit_toNat (by omega)]
      omega
theorem digits_inj {a b : Nat} (h : Lib.decDigits a = Lib.decDigits b) : a = b := by rw [← val_digits a, ← val_digits b, h]
theorem itoa_pos {n : Int} (h : 0 ≤ n) : Lib.itoa n = Lib.decDigits n.toNat := by unfold Lib.itoa; rw [if_neg (by omega)]
theorem word_kinds {x : Atm} (h : okA x = true) : (x.k = 0 ∧ x.n = 0) ∨ (x.k = 1 ∧ x.n = 0) ∨ (x.k = 2 ∧ x.n = 0) ∨ (x.k = 3 ∧ 0 ≤ x.n) ∨ (x.k = 4 ∧ 0 ≤ x.n) ∨ (x.k = 5 ∧ 0 ≤ x.n) ∨ (x.k = 6 ∧ x.n = 0) := by
  unfold okA at h
  split at h
  · have := of_decide_eq_true h; omega
  · have := of_decide_eq_true h; omega
theorem word_form {x : Atm} (h : okA x = true) : (x.n = 0 ∧ ((x.k = 0 ∧ wordB x = [110, 117, 108, 108]) ∨ (x.k = 1 ∧ wordB x = [98, 111, 111, 108]) ∨ (x.k = 2 ∧ wordB x = [110, 117, 109]) ∨ (x.k = 6 ∧ wordB x = [97, 110, 121]))) ∨
    (0 ≤ x.n ∧ ((x.k = 3 ∧ wordB x = [102, 117, 110] ++ Lib.decDigits x.n.toNat) ∨ (x.k = 4 ∧ wordB x = [114, 101, 99] ++ Lib.decDigits x.n.toNat) ∨ (x.k = 5 ∧ wordB x = [115, 117, 109] ++ Lib.decDigits x.n.toNat))) := by
  rcases word_kinds h with ⟨h1, h2⟩ | ⟨h1, h2⟩ | ⟨h1, h2⟩ | ⟨h1, h2⟩ | ⟨h1, h2⟩ | ⟨h1, h2⟩ | ⟨h1, h2⟩
  · exact .inl ⟨h2, .inl ⟨h1, by simp [wordB, h1]⟩⟩
  · exact .inl ⟨h2, .inr (.inl ⟨h1, by simp [wordB, h1]⟩)⟩
  · exact .inl ⟨h2, .inr (.inr (.inl ⟨h1, by simp [wordB, h1]⟩))⟩
  · exact .inr ⟨h2, .inl ⟨h1, by simp [wordB, h1, itoa_pos h2]⟩⟩
  · exact .inr ⟨h2, .inr (.inl ⟨h1, by simp [wordB, h1, itoa_pos h2]⟩)⟩
  · exact .inr ⟨h2, .inr (.inr ⟨h1, by simp [wordB, h1, itoa_pos h2]⟩)⟩
  · exact .inl ⟨h2, .inr (.inr (.inr ⟨h1, by simp [wordB, h1]⟩))⟩
theorem word_clean {x : Atm} (h : okA x = true) : (32 : UInt8) ∉ wordB x ∧ wordB x ≠ [] := by
  have hd : (32 : UInt8) ∉ Lib.decDigits x.n.toNat := fun hm => by
    have := (digits_range _ _ hm).1
    simp at this
  rcases word_form h with ⟨_, ⟨_, e⟩ | ⟨_, e⟩ | ⟨_, e⟩ | ⟨_, e⟩⟩ | ⟨_, ⟨_, e⟩ | ⟨_, e⟩ | ⟨_, e⟩⟩ <;> rw [e] <;> simp [hd]
theorem word_inj {x y : Atm} (hx : okA x = true) (hy : okA y = true) (h : wordB x = wordB y) : x = y := by
  have hd : ∀ a b : Int, 0 ≤ a → 0 ≤ b → Lib.decDigits a.toNat = Lib.decDigits b.toNat → a = b := fun a b ha hb h => by
    have := digits_inj h; omega
  rcases word_form hx with ⟨n1, ⟨k1, e1⟩ | ⟨k1, e1⟩ | ⟨k1, e1⟩ | ⟨k1, e1⟩⟩ | ⟨n1, ⟨k1, e1⟩ | ⟨k1, e1⟩ | ⟨k1, e1⟩⟩ <;>
  rcases word_form hy with ⟨n2, ⟨k2, e2⟩ | ⟨k2, e2⟩ | ⟨k2, e2⟩ | ⟨k2, e2⟩⟩ | ⟨n2, ⟨k2, e2⟩ | ⟨k2, e2⟩ | ⟨k2, e2⟩⟩ <;>
  rw [e1, e2] at h <;>
  first
    | exact atm_ext (k1.trans k2.symm) (n1.trans n2.symm)
    | exact atm_ext (k1.trans k2.symm) (hd _ _ n1 n2 (List.append_cancel_left h))
    | exact absurd h (by simp)
theorem tail_head (r : List (List UInt8)) : tailB r = [] ∧ r = [] ∨ ∃ t, tailB r = 32 :: t := by
  cases r with
  | nil => exact .inl ⟨rfl, rfl⟩
  | cons y r => exact .inr ⟨y ++ tailB r, by simp [tailB]⟩
theorem cut_blank : ∀ {a b s t : List UInt8}, (32 : UInt8) ∉ a → (32 : UInt8) ∉ b → (s = [] ∨ ∃ u, s = 32 :: u) → (t = [] ∨ ∃ u, t = 32 :: u) → a ++ s = b ++ t → a = b ∧ s = t
  | [], [], s, t, _, _, _, _, h => ⟨rfl, by simpa using h⟩
  | [], y :: b, s, t, _, hb, hs, _, h => by
    rcases hs with rfl | ⟨u, rfl⟩
    · simp at h
    · simp at h
      exact absurd (by rw [← h.1]; exact List.mem_cons_self ..) hb
  | x :: a, [], s, t, ha, _, _, ht, h => by
    rcases ht with rfl | ⟨u, rfl⟩
    · simp at h
    · simp at h
      exact absurd (by rw [h.1]; exact List.mem_cons_self ..) ha
  | x :: a, y :: b, s, t, ha, hb, hs, ht, h => by
    simp only [List.cons_append, List.cons.injEq] at h
    obtain ⟨e1, e2⟩ := cut_blank (fun m => ha (List.mem_cons_of_mem _ m)) (fun m => hb (List.mem_cons_of_mem _ m)) hs ht h.2
    exact ⟨by rw [h.1, e1], e2⟩
theorem tail_inj : ∀ {u v : List Atm}, (∀ x ∈ u, okA x = true) → (∀ x ∈ v, okA x = true) → tailB (u.map wordB) = tailB (v.map wordB) → u = v
  | [], [], _, _, _ => rfl
  | [], y :: v, _, _, h => by simp [tailB] at h
  | x :: u, [], _, _, h => by simp [tailB] at h
  | x :: u, y :: v, hu, hv, h => by
    have h' : 32 :: (wordB x ++ tailB (u.map wordB)) = 32 :: (wordB y ++ tailB (v.map wordB)) := by simpa [tailB] using h
    have ox := hu x (List.mem_cons_self ..)
    have oy := hv y (List.mem_cons_self ..)
    obtain ⟨e1, e2⟩ := cut_blank (word_clean ox).1 (word_clean oy).1 ((tail_head _).imp And.left id) ((tail_head _).imp And.left id) (List.cons.inj h').2
    rw [word_inj ox oy e1, tail_inj (fun z hz => hu z (List.mem_cons_of_mem _ hz)) (fun z hz => hv z (List.mem_cons_of_mem _ hz)) e2]
theorem text_inj {u v : List Atm} (hu : mayL u = true) (hv : mayL v = true) (h : textB u = textB v) : u = v := by
  have hu := ((may_iff u).1 hu).2
  have hv := ((may_iff v).1 hv).2
  match u, v, hu, hv, h with
  | [], [], _, _, _ => rfl
  | [], y :: v, _, hv, h =>
    have := (word_clean (hv y (List.mem_cons_self ..))).2
    simp [textB, joinB] at h
    exact absurd h.1 this
  | x :: u, [], hu, _, h =>
    have := (word_clean (hu x (List.mem_cons_self ..))).2
    simp [textB, joinB] at h
    exact absurd h.1 this
  | x :: u, y :: v, hu, hv, h =>
    have ox := hu x (List.mem_cons_self ..)
    have oy := hv y (List.mem_cons_self ..)
    simp only [textB, joinB, List.map_cons] at h
    obtain ⟨e1, e2⟩ := cut_blank (word_clean ox).1 (word_clean oy).1 ((tail_head _).imp And.left id) ((tail_head _).imp And.left id) h
    rw [word_inj ox oy e1, tail_inj (fun z hz => hu z (List.mem_cons_of_mem _ hz)) (fun z hz => hv z (List.mem_cons_of_mem _ hz)) e2]
end M
end Go.Proofs.YtbaaeobdjiglgaaGreat

/-
  Shapes as mathematics: names and their order, rising fields, what a property is, joins, within, what is written, renaming. Nothing of the program's code is walked here. No conditions.
-/
set_option linter.unusedVariables false
namespace Go.Proofs.YtbaaeobdjiglgaaGreat
namespace M

/-! Names. -/
theorem toList_inj {a b : ByteArray} : a.toList = b.toList ↔ a = b := by
  rw [ByteArray.toList_eq, ByteArray.toList_eq]; exact ⟨bytes_ext, fun h => by rw [h]⟩
def ltN (a b : ByteArray) : Bool := decide (a.toList < b.toList)
theorem ll_irrefl : ∀ l : List UInt8, ¬ l < l
  | [], h => by cases h
  | a :: l, h => by
    rcases List.cons_lt_cons_iff.1 h with h | ⟨_, h⟩
    · exact UInt8.lt_irrefl a h
    · exact ll_irrefl l h
theorem ll_trans : ∀ {a b c : List UInt8}, a < b → b < c → a < c
  | _, _, [], _, h => by cases h
  | _, [], _, h, _ => by cases h
  | [], _ :: _, _ :: _, _, _ => List.nil_lt_cons _ _
  | a :: x, b :: y, c :: z, h1, h2 => by
    rcases List.cons_lt_cons_iff.1 h1 with h3 | ⟨e3, h3⟩
    · rcases List.cons_lt_cons_iff.1 h2 with h4 | ⟨e4, h4⟩
      · exact List.cons_lt_cons_iff.2 (.inl (UInt8.lt_trans h3 h4))
      · exact List.cons_lt_cons_iff.2 (.inl (by rw [← e4]; exact h3))
    · rcases List.cons_lt_cons_iff.1 h2 with h4 | ⟨e4, h4⟩
      · exact List.cons_lt_cons_iff.2 (.inl (by rw [e3]; exact h4))
      · exact List.cons_lt_cons_iff.2 (.inr ⟨by rw [e3, e4], ll_trans h3 h4⟩)
theorem ll_tri : ∀ {a b : List UInt8}, ¬ a < b → ¬ b < a → a = b
  | [], [], _, _ => rfl
  | [], _ :: _, h, _ => absurd (List.nil_lt_cons _ _) h
  | _ :: _, [], _, h => absurd (List.nil_lt_cons _ _) h
  | a :: x, b :: y, h1, h2 => by
    rw [List.cons_lt_cons_iff] at h1 h2
    have e : a = b := by
      apply UInt8.toNat_inj.1
      have h3 : ¬ a < b := fun h => h1 (.inl h)
      have h4 : ¬ b < a := fun h => h2 (.inl h)
      rw [UInt8.lt_iff_toNat_lt] at h3 h4
      omega
    subst e
    rw [ll_tri (fun h => h1 (.inr ⟨rfl, h⟩)) (fun h => h2 (.inr ⟨rfl, h⟩))]
theorem ltN_irrefl (a : ByteArray) : ltN a a = false := decide_eq_false (ll_irrefl _)
theorem ltN_trans {a b c : ByteArray} (h1 : ltN a b = true) (h2 : ltN b c = true) : ltN a c = true :=
  decide_eq_true (ll_trans (of_decide_eq_true h1) (of_decide_eq_true h2))
theorem ltN_tri {a b : ByteArray} (h1 : ltN a b = false) (h2 : ltN b a = false) : a = b :=
  toList_inj.1 (ll_tri (of_decide_eq_false h1) (of_decide_eq_false h2))
theorem ltN_asymm {a b : ByteArray} (h : ltN a b = true) : ltN b a = false := by
  cases h2 : ltN b a with
  | false => rfl
  | true => have := ltN_trans h h2; rw [ltN_irrefl] at this; cases this
theorem ltN_ne {a b : ByteArray} (h : ltN a b = true) : a ≠ b := fun e => by subst e; rw [ltN_irrefl] at h; cases h
theorem ltN_nle {a b c : ByteArray} (h1 : ltN b a = false) (h2 : ltN c b = false) : ltN c a = false := by
  cases h : ltN c a with
  | false => rfl
  | true =>
    cases h3 : ltN a b with
    | true => have := ltN_trans h h3; rw [h2] at this; cases this
    | false => have e := ltN_tri h3 h1; subst e; rw [h2] at h; cases h

/-! Fields. -/
structure Fld where
  nm : ByteArray
  su : Bool
  vs : List Atm
  deriving DecidableEq, Inhabited
structure Shp where
  fs : List Fld
  pr : List Atm
  deriving DecidableEq

def RisF (l : List Fld) : Prop := l.Pairwise fun x y => ltN x.nm y.nm = true
def getF (l : List Fld) (n : ByteArray) : Option Fld := l.find? fun f => decide (f.nm = n)

theorem getF_nm {l : List Fld} {n : ByteArray} {f : Fld} (h : getF l n = some f) : f.nm = n := by
  have := List.find?_some h; simpa using this
theorem getF_mem {l : List Fld} {n : ByteArray} {f : Fld} (h : getF l n = some f) : f ∈ l := List.mem_of_find?_eq_some h
theorem getF_none {l : List Fld} {n : ByteArray} : getF l n = none ↔ ∀ f ∈ l, f.nm ≠ n := by
  unfold getF; simp
theorem getF_cons (x : Fld) (l : List Fld) (n : ByteArray) : getF (x :: l) n = if x.nm = n then some x else getF l n := by
  unfold getF; rw [List.find?_cons]; by_cases h : x.nm = n <;> simp [h]
theorem getF_of_mem : ∀ {l : List Fld} {f : Fld}, RisF l → f ∈ l → getF l f.nm = some f
  | x :: l, f, h, hf => by
    have a := List.pairwise_cons.1 h
    rw [getF_cons]
    rcases List.mem_cons.1 hf with e | e
    · subst e; rw [if_pos rfl]
    · rw [if_neg (ltN_ne (a.1 f e)), getF_of_mem a.2 e]
theorem risF_ext : ∀ {l m : List Fld}, RisF l → RisF m → (∀ n, getF l n = getF m n) → l = m
  | [], [], _, _, _ => rfl
  | [], y :: m, _, _, h => by have := h y.nm; rw [getF_cons, if_pos rfl] at this; cases this
  | x :: l, [], _, _, h => by have := h x.nm; rw [getF_cons, if_pos rfl] at this; cases this
  | x :: l, y :: m, h1, h2, h => by
    have a := List.pairwise_cons.1 h1
    have b := List.pairwise_cons.1 h2
    have hx := h x.nm
    have hy := h y.nm
    rw [getF_cons, if_pos rfl] at hx
    have ex : x ∈ y :: m := getF_mem hx.symm
    rw [getF_cons (x := y), if_pos rfl] at hy
    have ey : y ∈ x :: l := getF_mem hy
    have e : x = y := by
      rcases List.mem_cons.1 ex with e | e
      · exact e
      · rcases List.mem_cons.1 ey with f | f
        · exact f.symm
        · have := ltN_asymm (b.1 x e); rw [a.1 y f] at this; cases this
    subst e
    rw [risF_ext a.2 b.2 fun n => ?_]
    have := h n
    rw [getF_cons, getF_cons] at this
    by_cases hn : x.nm = n
    · subst hn
      rw [getF_none.2 fun f hf => (ltN_ne (a.1 f hf)).symm, getF_none.2 fun f hf => (ltN_ne (b.1 f hf)).symm]
    · rw [if_neg hn, if_neg hn] at this; exact this

/-- with f in its place -/
def withF (f : Fld) : List Fld → List Fld
  | [] => [f]
  | y :: r => if f.nm = y.nm then f :: r else if ltN f.nm y.nm then f :: y :: r else y :: withF f r
theorem mem_withF {f z : Fld} : ∀ {l : List Fld}, z ∈ withF f l → z = f ∨ z ∈ l
  | [], h => by simp [withF] at h; exact .inl h
  | y :: r, h => by
    unfold withF at h
    split at h
    · rcases List.mem_cons.1 h with h | h
      · exact .inl h
      · exact .inr (List.mem_cons_of_mem _ h)
    · split at h
      · exact List.mem_cons.1 h
      · rcases List.mem_cons.1 h with h | h
        · exact .inr (by rw [h]; exact List.mem_cons_self ..)
        · rcases mem_withF h with h | h
          · exact .inl h
          · exact .inr (List.mem_cons_of_mem _ h)
theorem withF_length (f : Fld) : ∀ l : List Fld, (withF f l).length ≤ l.length + 1
  | [] => Nat.le_refl _
  | y :: r => by
    unfold withF
    split
    · simp
    · split
      · simp
      · have := withF_length f r; simp; omega
theorem ris_withF {f : Fld} : ∀ {l : List Fld}, RisF l → RisF (withF f l)
  | [], _ => by unfold withF RisF; simp
  | y :: r, h => by
    have a := List.pairwise_cons.1 h
    unfold withF
    split
    · rename_i e
      exact List.pairwise_cons.2 ⟨fun z hz => by rw [e]; exact a.1 z hz, a.2⟩
    · rename_i ne
      split
      · rename_i hl
        refine List.pairwise_cons.2 ⟨fun z hz => ?_, h⟩
        rcases List.mem_cons.1 hz with e | e
        · rw [e]; exact hl
        · exact ltN_trans hl (a.1 z e)
      · rename_i hl
        refine List.pairwise_cons.2 ⟨fun z hz => ?_, ris_withF a.2⟩
        rcases mem_withF hz with e | e
        · subst e
          cases h2 : ltN y.nm z.nm with
          | true => rfl
          | false => exact absurd (ltN_tri (by simpa using hl) h2) ne
        · exact a.1 z e
theorem get_withF {f : Fld} (n : ByteArray) : ∀ {l : List Fld}, RisF l → getF (withF f l) n = if f.nm = n then some f else getF l n
  | [], _ => by unfold withF; rw [getF_cons]
  | y :: r, h => by
    have a := List.pairwise_cons.1 h
    unfold withF
    split
    · rename_i e
      rw [getF_cons, getF_cons]
      by_cases hn : f.nm = n
      · rw [if_pos hn, if_pos hn]
      · rw [if_neg hn, if_neg hn, if_neg (by rw [← e]; exact hn)]
    · rename_i ne
      split
      · rw [getF_cons]
      · rw [getF_cons, get_withF n a.2, getF_cons]
        by_cases hn : f.nm = n
        · rw [if_pos hn, if_neg (by rw [← hn]; exact fun e => ne e.symm), if_pos hn]
        · rw [if_neg hn, if_neg hn]

/-! The document's With, step by step. -/
def wloop (f : Fld) : Bool → List Fld → List Fld → List Fld
  | true, acc, [] => acc
  | false, acc, [] => acc ++ [f]
  | true, acc, y :: r => if y.nm = f.nm then wloop f true acc r else wloop f true (acc ++ [y]) r
  | false, acc, y :: r => if ltN y.nm f.nm then wloop f false (acc ++ [y]) r else if y.nm = f.nm then wloop f true (acc ++ [f]) r else wloop f true (acc ++ [f] ++ [y]) r
theorem wloop_true (f : Fld) : ∀ (l acc : List Fld), (∀ y ∈ l, y.nm ≠ f.nm) → wloop f true acc l = acc ++ l
  | [], acc, _ => by simp [wloop]
  | y :: r, acc, h => by
    unfold wloop
    rw [if_neg (h y (List.mem_cons_self ..)), wloop_true f r _ fun z hz => h z (List.mem_cons_of_mem _ hz)]
    simp
theorem wloop_false (f : Fld) : ∀ (l acc : List Fld), RisF l → wloop f false acc l = acc ++ withF f l
  | [], acc, _ => rfl
  | y :: r, acc, h => by
    have a := List.pairwise_cons.1 h
    unfold wloop withF
    split
    · rename_i hl
      rw [if_neg (fun e => ltN_ne hl e.symm), if_neg (by rw [ltN_asymm hl]; simp), wloop_false f r _ a.2]
      simp
    · rename_i hl
      split
      · rename_i e
        rw [if_pos e.symm, wloop_true f r _ fun z hz he => ltN_ne (a.1 z hz) (by rw [he, e])]
        simp
      · rename_i ne
        have hl2 : ltN f.nm y.nm = true := by
          cases h2 : ltN f.nm y.nm with
          | true => rfl
          | false => exact absurd (ltN_tri (by simpa using hl) h2) ne
        rw [if_neg (fun e => ne e.symm), if_pos hl2, wloop_true f r _ fun z hz he => by
          have := ltN_trans hl2 (a.1 z hz); rw [he, ltN_irrefl] at this; cases this]
        simp

/-! Shapes. -/
def risB : List Fld → Bool
  | [] => true
  | x :: l => l.all (fun y => ltN x.nm y.nm) && risB l
theorem risB_iff : ∀ l : List Fld, risB l = true ↔ RisF l
  | [] => by simp [risB, RisF]
  | x :: l => by
    unfold risB RisF
    rw [Bool.and_eq_true, risB_iff l, List.pairwise_cons, List.all_eq_true]
    exact Iff.rfl
def mayS (s : Shp) : Bool := risB s.fs && s.fs.all (fun f => mayL f.vs) && mayL s.pr
theorem mayS_iff (s : Shp) : mayS s = true ↔ RisF s.fs ∧ (∀ f ∈ s.fs, mayL f.vs = true) ∧ mayL s.pr = true := by
  unfold mayS
  rw [Bool.and_eq_true, Bool.and_eq_true, risB_iff, List.all_eq_true, and_assoc]

def suO : Option Fld → Bool
  | none => false
  | some f => f.su
def vsO : Option Fld → List Atm
  | none => []
  | some f => f.vs
/-- the property of the name in the join of two -/
def jf (a b : List Fld) (n : ByteArray) : Fld := ⟨n, suO (getF a n) && suO (getF b n), norm (vsO (getF a n) ++ vsO (getF b n))⟩
def joinF (a b : List Fld) : List Fld := (a ++ b).foldl (fun acc x => withF (jf a b x.nm) acc) []
def joinS (a b : Shp) : Shp := ⟨joinF a.fs b.fs, norm (a.pr ++ b.pr)⟩
def zeroS : Shp := ⟨[], []⟩

theorem jfold (a b : List Fld) : ∀ (l acc : List Fld), RisF acc → RisF (l.foldl (fun acc x => withF (jf a b x.nm) acc) acc) ∧
    (∀ n, getF (l.foldl (fun acc x => withF (jf a b x.nm) acc) acc) n = if (∃ x ∈ l, x.nm = n) then some (jf a b n) else getF acc n) ∧
    (l.foldl (fun acc x => withF (jf a b x.nm) acc) acc).length ≤ acc.length + l.length
  | [], acc, h => ⟨h, fun n => by simp, by simp⟩
  | x :: l, acc, h => by
    obtain ⟨h1, h2, h3⟩ := jfold a b l (withF (jf a b x.nm) acc) (ris_withF h)
    refine ⟨h1, fun n => ?_, ?_⟩
    · rw [List.foldl_cons, h2, get_withF n h]
      by_cases hl : ∃ y ∈ l, y.nm = n
      · rw [if_pos hl, if_pos]
        obtain ⟨y, hy, e⟩ := hl
        exact ⟨y, List.mem_cons_of_mem _ hy, e⟩
      · rw [if_neg hl]
        by_cases hx : x.nm = n
        · rw [if_pos (show (jf a b x.nm).nm = n from hx), if_pos ⟨x, List.mem_cons_self .., hx⟩, hx]
        · rw [if_neg (show ¬ (jf a b x.nm).nm = n from hx), if_neg]
          rintro ⟨y, hy, e⟩
          rcases List.mem_cons.1 hy with h | h
          · exact hx (by rw [← h]; exact e)
          · exact hl ⟨y, h, e⟩
    · rw [List.foldl_cons]
      have := withF_length (jf a b x.nm) acc
      simp only [List.length_cons]
      omega
theorem ris_joinF (a b : List Fld) : RisF (joinF a b) := (jfold a b (a ++ b) [] List.Pairwise.nil).1
theorem joinF_length (a b : List Fld) : (joinF a b).length ≤ a.length + b.length := by
  have := (jfold a b (a ++ b) [] List.Pairwise.nil).2.2
  rw [List.length_append, List.length_nil, Nat.zero_add] at this
  exact this
/-- what a property of a join is -/
def cmb (n : ByteArray) : Option Fld → Option Fld → Option Fld
  | none, none => none
  | o, p => some ⟨n, suO o && suO p, norm (vsO o ++ vsO p)⟩
theorem get_joinF (a b : List Fld) (n : ByteArray) : getF (joinF a b) n = cmb n (getF a n) (getF b n) := by
  unfold joinF
  rw [(jfold a b (a ++ b) [] List.Pairwise.nil).2.1]
  by_cases h : ∃ x ∈ a ++ b, x.nm = n
  · rw [if_pos h]
    unfold jf
    cases ha : getF a n with
    | some f => rfl
    | none =>
      cases hb : getF b n with
      | some f => rfl
      | none =>
        obtain ⟨x, hx, e⟩ := h
        rcases List.mem_append.1 hx with hx | hx
        · exact absurd e (getF_none.1 ha x hx)
        · exact absurd e (getF_none.1 hb x hx)
  · rw [if_neg h]
    have ha : getF a n = none := getF_none.2 fun f hf e => h ⟨f, List.mem_append.2 (.inl hf), e⟩
    have hb : getF b n = none := getF_none.2 fun f hf e => h ⟨f, List.mem_append.2 (.inr hf), e⟩
    rw [ha, hb]; rfl
theorem cmb_may {n : ByteArray} {o p : Option Fld} {f : Fld} (h : cmb n o p = some f) : mayL f.vs = true ∧ f.nm = n := by
  cases o with
  | some x => simp only [cmb, Option.some.injEq] at h; subst h; exact ⟨may_norm _, rfl⟩
  | none =>
    cases p with
    | some x => simp only [cmb, Option.some.injEq] at h; subst h; exact ⟨may_norm _, rfl⟩
    | none => cases h
theorem may_joinF (a b : List Fld) : ∀ f ∈ joinF a b, mayL f.vs = true := fun f hf => by
  have := getF_of_mem (ris_joinF a b) hf
  rw [get_joinF] at this
  exact (cmb_may this).1
theorem may_joinS (a b : Shp) : mayS (joinS a b) = true := (mayS_iff _).2 ⟨ris_joinF _ _, may_joinF _ _, may_norm _⟩

/-! What the program's join does: the one's, then those of the other that are not there; sorted. -/
def pa (b : List Fld) (f : Fld) : Fld := ⟨f.nm, f.su && suO (getF b f.nm), norm (f.vs ++ vsO (getF b f.nm))⟩
def pb (g : Fld) : Fld := ⟨g.nm, false, g.vs⟩
def both (a b : List Fld) : List Fld := a.map (pa b) ++ (b.filter fun g => (getF a g.nm).isNone).map pb
theorem norm_may {l : List Atm} (h : mayL l = true) : norm l = l := (of_decide_eq_true h).symm
theorem mem_both {a b : List Fld} (ha : RisF a) (hb : RisF b) (hv : ∀ f ∈ b, mayL f.vs = true) (f : Fld) : f ∈ both a b ↔ f ∈ joinF a b := by
  have key : f ∈ joinF a b ↔ cmb f.nm (getF a f.nm) (getF b f.nm) = some f := by
    rw [← get_joinF]
    exact ⟨getF_of_mem (ris_joinF a b), getF_mem⟩
  rw [key]
  unfold both
  rw [List.mem_append, List.mem_map, List.mem_map]
  constructor
  · rintro (⟨x, hx, rfl⟩ | ⟨g, hg, rfl⟩)
    · show cmb x.nm (getF a x.nm) (getF b x.nm) = _
      rw [getF_of_mem ha hx]; rfl
    · obtain ⟨hg, hn⟩ := List.mem_filter.1 hg
      show cmb g.nm (getF a g.nm) (getF b g.nm) = _
      rw [getF_of_mem hb hg, Option.isNone_iff_eq_none.1 hn]
      show some _ = _
      unfold pb
      simp only [suO, vsO, Bool.false_and, List.nil_append]
      rw [norm_may (hv g hg)]
  · intro h
    cases hga : getF a f.nm with
    | some x =>
      left
      refine ⟨x, getF_mem hga, ?_⟩
      have hn := getF_nm hga
      rw [hga] at h
      simp only [cmb, suO, vsO, Option.some.injEq] at h
      rw [← h]
      unfold pa
      rw [hn]; rfl
    | none =>
      right
      rw [hga] at h
      cases hgb : getF b f.nm with
      | none => rw [hgb] at h; cases h
      | some g =>
        rw [hgb] at h
        have hn := getF_nm hgb
        refine ⟨g, List.mem_filter.2 ⟨getF_mem hgb, by rw [hn, hga]; rfl⟩, ?_⟩
        simp only [cmb, suO, vsO, Option.some.injEq, Bool.false_and, List.nil_append] at h
        rw [← h]
        unfold pb
        rw [hn, norm_may (hv g (getF_mem hgb))]
theorem both_apart {a b : List Fld} (ha : RisF a) (hb : RisF b) : (both a b).Pairwise fun x y => x.nm ≠ y.nm := by
  unfold both
  rw [List.pairwise_append]
  refine ⟨?_, ?_, ?_⟩
  · rw [List.pairwise_map]
    exact List.Pairwise.imp (fun {x y} h => ltN_ne h) ha
  · rw [List.pairwise_map]
    exact List.Pairwise.imp (fun {x y} h => ltN_ne h) (List.Pairwise.filter _ hb)
  · intro x hx y hy
    obtain ⟨f, hf, rfl⟩ := List.mem_map.1 hx
    obtain ⟨g, hg, rfl⟩ := List.mem_map.1 hy
    obtain ⟨_, hn⟩ := List.mem_filter.1 hg
    have := getF_none.1 (Option.isNone_iff_eq_none.1 hn) f hf
    exact this
theorem both_length (a b : List Fld) : (both a b).length ≤ a.length + b.length := by
  unfold both
  have := List.length_filter_le (fun g => (getF a g.nm).isNone) b
  simp
  omega
/-- not falling -/
def SteadyF (l : List Fld) : Prop := l.Pairwise fun x y => ltN y.nm x.nm = false
theorem ris_of_steady {l : List Fld} (h : SteadyF l) (hn : l.Pairwise fun x y => x.nm ≠ y.nm) : RisF l := by
  have := List.Pairwise.and h hn
  refine List.Pairwise.imp (fun {x y} hxy => ?_) this
  cases h2 : ltN x.nm y.nm with
  | true => rfl
  | false => exact absurd (ltN_tri h2 hxy.1) hxy.2
theorem ris_mem_ext {l m : List Fld} (hl : RisF l) (hm : RisF m) (h : ∀ f, f ∈ l ↔ f ∈ m) : l = m :=
  risF_ext hl hm fun n => by
    cases h1 : getF l n with
    | some f =>
      have := getF_of_mem hm ((h f).1 (getF_mem h1))
      rw [getF_nm h1] at this
      exact this.symm
    | none =>
      cases h2 : getF m n with
      | none => rfl
      | some f => exact absurd (getF_nm h2) (getF_none.1 h1 f ((h f).2 (getF_mem h2)))
theorem sorted_join {a b d : List Fld} (ha : RisF a) (hb : RisF b) (hv : ∀ f ∈ b, mayL f.vs = true) (hp : d.Perm (both a b)) (hs : SteadyF d) : d = joinF a b := by
  have hn : d.Pairwise fun x y => x.nm ≠ y.nm := (hp.pairwise_iff (fun {x y} h => Ne.symm h)).2 (both_apart ha hb)
  exact ris_mem_ext (ris_of_steady hs hn) (ris_joinF a b) fun f => by rw [hp.mem_iff, mem_both ha hb hv]

/-! Within. -/
def inO : Option Fld → Option Fld → Bool
  | none, none => true
  | none, some g => !g.su
  | some _, none => false
  | some f, some g => within f.vs g.vs && (!g.su || f.su)
def withinF (a b : List Fld) : Bool := a.all (fun f => inO (some f) (getF b f.nm)) && b.all (fun g => !g.su || (getF a g.nm).isSome)
def withinS (a b : Shp) : Bool := within a.pr b.pr && withinF a.fs b.fs
theorem withinF_iff {a b : List Fld} (ha : RisF a) (hb : RisF b) : withinF a b = true ↔ ∀ n, inO (getF a n) (getF b n) = true := by
  unfold withinF
  rw [Bool.and_eq_true, List.all_eq_true, List.all_eq_true]
  constructor
  · rintro ⟨h1, h2⟩ n
    cases hga : getF a n with
    | some f =>
      have := h1 f (getF_mem hga)
      rw [getF_nm hga] at this
      exact this
    | none =>
      cases hgb : getF b n with
      | none => rfl
      | some g =>
        have := h2 g (getF_mem hgb)
        rw [getF_nm hgb, hga] at this
        simp at this
        simp [inO, this]
  · intro h
    refine ⟨fun f hf => ?_, fun g hg => ?_⟩
    · have := h f.nm
      rw [getF_of_mem ha hf] at this
      exact this
    · have := h g.nm
      rw [getF_of_mem hb hg] at this
      cases hga : getF a g.nm with
      | some f => simp
      | none => rw [hga] at this; simpa [inO] using this
theorem withinS_iff {a b : Shp} (ha : RisF a.fs) (hb : RisF b.fs) : withinS a b = true ↔ within a.pr b.pr = true ∧ ∀ n, inO (getF a.fs n) (getF b.fs n) = true := by
  unfold withinS
  rw [Bool.and_eq_true, withinF_iff ha hb]
theorem shp_ext {a b : Shp} (h1 : a.fs = b.fs) (h2 : a.pr = b.pr) : a = b := by
  cases a; cases b; simp at h1 h2; rw [h1, h2]
def sameS (a b : Shp) : Bool := decide (a = b)
/-- a property whose name and atoms are as they may be -/
def OkO (n : ByteArray) (o : Option Fld) : Prop := ∀ f, o = some f → f.nm = n ∧ mayL f.vs = true
theorem okO_get {s : Shp} (h : mayS s = true) (n : ByteArray) : OkO n (getF s.fs n) := fun f hf => ⟨getF_nm hf, ((mayS_iff s).1 h).2.1 f (getF_mem hf)⟩
theorem within_refl (a : List Atm) : within a a = true := (within_iff _ _).2 fun _ h => h
theorem inO_refl (o : Option Fld) : inO o o = true := by
  cases o with
  | none => rfl
  | some f => simp [inO, within_refl]
theorem cmb_left {n : ByteArray} {o p : Option Fld} (ho : OkO n o) : inO o (cmb n o p) = true := by
  cases o with
  | none => cases p <;> simp [cmb, inO, suO]
  | some f =>
    have := (ho f rfl).2
    simp only [cmb, inO, suO, vsO, within_left _ this, Bool.true_and]
    cases f.su <;> simp
theorem cmb_comm (n : ByteArray) (o p : Option Fld) : cmb n o p = cmb n p o := by
  cases o <;> cases p <;> simp only [cmb, suO, vsO, Bool.false_and, Bool.and_false]
  · rw [union_comm]
  · rw [union_comm]
  · rw [union_comm, Bool.and_comm]
theorem cmb_right {n : ByteArray} {o p : Option Fld} (hp : OkO n p) : inO p (cmb n o p) = true := by rw [cmb_comm]; exact cmb_left hp
theorem cmb_least {n : ByteArray} {o p q : Option Fld} (h1 : inO o q = true) (h2 : inO p q = true) : inO (cmb n o p) q = true := by
  cases o with
  | none =>
    cases p with
    | none => exact h1
    | some g =>
      cases q with
      | none => cases h2
      | some x =>
        simp only [inO, Bool.and_eq_true] at h1 h2
        simp only [cmb, inO, suO, vsO, Bool.and_eq_true]
        refine ⟨union_least (by simp [within]) h2.1, ?_⟩
        simp at h1; simp [h1]
  | some f =>
    cases q with
    | none => cases h1
    | some x =>
      cases p with
      | none =>
        simp only [inO, Bool.and_eq_true] at h1 h2
        simp only [cmb, inO, suO, vsO, Bool.and_eq_true]
        refine ⟨union_least h1.1 (by simp [within]), ?_⟩
        simp at h2; simp [h2]
      | some g =>
        simp only [inO, Bool.and_eq_true] at h1 h2
        simp only [cmb, inO, suO, vsO, Bool.and_eq_true]
        refine ⟨union_least h1.1 h2.1, ?_⟩
        have a := h1.2
        have b := h2.2
        revert a b
        cases x.su <;> cases f.su <;> cases g.su <;> simp
theorem cmb_again {n : ByteArray} {o p : Option Fld} : cmb n (cmb n o p) o = cmb n o p := by
  cases o with
  | none =>
    cases p with
    | none => rfl
    | some g => simp only [cmb, suO, vsO, Bool.false_and, List.append_nil, List.nil_append]; rw [norm_may (may_norm _)]
  | some f =>
    have hb : ∀ a b : Bool, (a && b && a) = (a && b) := by decide
    cases p with
    | none => simp only [cmb, suO, vsO]; rw [hb, ← union_again]
    | some g => simp only [cmb, suO, vsO]; rw [hb, ← union_again]
theorem norm_nil : norm ([] : List Atm) = [] := rfl
theorem cmb_assoc (n : ByteArray) (o p q : Option Fld) : cmb n (cmb n o p) q = cmb n o (cmb n p q) := by
  have nn : ∀ l : List Atm, norm (norm l) = norm l := fun l => norm_may (may_norm _)
  have e1 : ∀ a b : List Atm, norm (norm a ++ b) = norm (a ++ b) := fun a b => by
    have := union_assoc [] a b
    simp only [List.nil_append] at this
    rw [this]; exact nn _
  have e2 : ∀ a b : List Atm, norm (a ++ norm b) = norm (a ++ b) := fun a b => by rw [union_comm, e1, union_comm]
  cases o <;> cases p <;> cases q <;> simp only [cmb, suO, vsO, Bool.false_and, Bool.and_false, List.nil_append, List.append_nil, e1, e2, nn, List.append_assoc, Bool.and_assoc]
theorem both_in {n : ByteArray} {o p : Option Fld} (ho : OkO n o) (hp : OkO n p) (h1 : inO o p = true) (h2 : inO p o = true) : o = p := by
  cases o with
  | none =>
    cases p with
    | none => rfl
    | some g => cases h2
  | some f =>
    cases p with
    | none => cases h1
    | some g =>
      obtain ⟨n1, m1⟩ := ho f rfl
      obtain ⟨n2, m2⟩ := hp g rfl
      simp only [inO, Bool.and_eq_true] at h1 h2
      have e3 : f.vs = g.vs := by
        have := both_within m1 m2
        rw [h1.1, h2.1] at this
        exact of_decide_eq_true this.symm
      have e2 : f.su = g.su := by
        have a := h1.2
        have b := h2.2
        revert a b
        cases f.su <;> cases g.su <;> simp
      cases f; cases g; simp at n1 n2 e2 e3; subst n1 e2 e3; rw [n2]
theorem joinS_ext {a b : Shp} (ha : RisF a.fs) (hb : RisF b.fs) (h : ∀ n, getF a.fs n = getF b.fs n) (hp : a.pr = b.pr) : a = b := shp_ext (risF_ext ha hb h) hp
theorem joinS_comm (a b : Shp) : joinS a b = joinS b a :=
  joinS_ext (ris_joinF _ _) (ris_joinF _ _) (fun n => by show getF (joinF _ _) n = getF (joinF _ _) n; rw [get_joinF, get_joinF, cmb_comm]) (union_comm _ _)
theorem joinS_again (a b : Shp) : joinS (joinS a b) a = joinS a b :=
  joinS_ext (ris_joinF _ _) (ris_joinF _ _) (fun n => by show getF (joinF (joinF _ _) _) n = getF (joinF _ _) n; rw [get_joinF, get_joinF, cmb_again]) (union_again _ _).symm
theorem joinS_assoc (a b c : Shp) : joinS (joinS a b) c = joinS a (joinS b c) :=
  joinS_ext (ris_joinF _ _) (ris_joinF _ _) (fun n => by show getF (joinF (joinF _ _) _) n = getF (joinF _ (joinF _ _)) n; rw [get_joinF, get_joinF, get_joinF, get_joinF, cmb_assoc]) (union_assoc _ _ _)
theorem ris_may {s : Shp} (h : mayS s = true) : RisF s.fs := ((mayS_iff s).1 h).1
theorem pr_may {s : Shp} (h : mayS s = true) : mayL s.pr = true := ((mayS_iff s).1 h).2.2
theorem joinS_left {a b : Shp} (ha : mayS a = true) : withinS a (joinS a b) = true :=
  (withinS_iff (ris_may ha) (ris_joinF _ _)).2 ⟨within_left _ (pr_may ha), fun n => by show inO _ (getF (joinF _ _) n) = true; rw [get_joinF]; exact cmb_left (okO_get ha n)⟩
theorem joinS_right {a b : Shp} (hb : mayS b = true) : withinS b (joinS a b) = true := by rw [joinS_comm]; exact joinS_left hb
theorem withinS_refl (a : Shp) (ha : mayS a = true) : withinS a a = true := (withinS_iff (ris_may ha) (ris_may ha)).2 ⟨within_refl _, fun n => inO_refl _⟩
theorem joinS_least {a b c : Shp} (ha : mayS a = true) (hb : mayS b = true) (hc : mayS c = true) (h1 : withinS a c = true) (h2 : withinS b c = true) : withinS (joinS a b) c = true := by
  have k1 := (withinS_iff (ris_may ha) (ris_may hc)).1 h1
  have k2 := (withinS_iff (ris_may hb) (ris_may hc)).1 h2
  exact (withinS_iff (ris_joinF _ _) (ris_may hc)).2 ⟨union_least k1.1 k2.1, fun n => by show inO (getF (joinF _ _) n) _ = true; rw [get_joinF]; exact cmb_least (k1.2 n) (k2.2 n)⟩
theorem bothS {a b : Shp} (ha : mayS a = true) (hb : mayS b = true) : (withinS a b && withinS b a) = sameS a b := by
  rw [Bool.eq_iff_iff, Bool.and_eq_true, sameS, decide_eq_true_iff]
  constructor
  · rintro ⟨h1, h2⟩
    have k1 := (withinS_iff (ris_may ha) (ris_may hb)).1 h1
    have k2 := (withinS_iff (ris_may hb) (ris_may ha)).1 h2
    refine joinS_ext (ris_may ha) (ris_may hb) (fun n => both_in (okO_get ha n) (okO_get hb n) (k1.2 n) (k2.2 n)) ?_
    have := both_within (pr_may ha) (pr_may hb)
    rw [k1.1, k2.1] at this
    exact of_decide_eq_true this.symm
  · rintro rfl; exact ⟨withinS_refl a ha, withinS_refl a ha⟩

/-! What is written. -/
def strongS (s : Shp) (n : ByteArray) (v : List Atm) : Shp := ⟨withF ⟨n, true, norm v⟩ s.fs, s.pr⟩
def weakS (s : Shp) (n : ByteArray) (v : List Atm) : Shp := ⟨withF ⟨n, suO (getF s.fs n), norm (vsO (getF s.fs n) ++ v)⟩ s.fs, s.pr⟩
theorem may_withF {f : Fld} {l : List Fld} (h : ∀ g ∈ l, mayL g.vs = true) (hf : mayL f.vs = true) : ∀ g ∈ withF f l, mayL g.vs = true := fun g hg => by
  rcases mem_withF hg with e | e
  · rw [e]; exact hf
  · exact h g e
theorem may_strong {s : Shp} (h : mayS s = true) (n : ByteArray) (v : List Atm) : mayS (strongS s n v) = true :=
  (mayS_iff _).2 ⟨ris_withF (ris_may h), may_withF ((mayS_iff s).1 h).2.1 (may_norm _), ((mayS_iff s).1 h).2.2⟩
theorem may_weak {s : Shp} (h : mayS s = true) (n : ByteArray) (v : List Atm) : mayS (weakS s n v) = true :=
  (mayS_iff _).2 ⟨ris_withF (ris_may h), may_withF ((mayS_iff s).1 h).2.1 (may_norm _), ((mayS_iff s).1 h).2.2⟩
theorem get_strong {s : Shp} (h : mayS s = true) (n : ByteArray) (v : List Atm) (m : ByteArray) : getF (strongS s n v).fs m = if n = m then some ⟨n, true, norm v⟩ else getF s.fs m := get_withF m (ris_may h)
theorem get_weak {s : Shp} (h : mayS s = true) (n : ByteArray) (v : List Atm) (m : ByteArray) : getF (weakS s n v).fs m = if n = m then some ⟨n, suO (getF s.fs n), norm (vsO (getF s.fs n) ++ v)⟩ else getF s.fs m := get_withF m (ris_may h)
theorem strong_in_weak {s : Shp} (h : mayS s = true) (n : ByteArray) {v : List Atm} (hv : mayL v = true) {f : Fld} (hf : getF s.fs n = some f) : withinS (strongS s n v) (weakS s n v) = true := by
  refine (withinS_iff (ris_withF (ris_may h)) (ris_withF (ris_may h))).2 ⟨within_refl _, fun m => ?_⟩
  rw [get_strong h, get_weak h]
  by_cases e : n = m
  · rw [if_pos e, if_pos e, hf]
    simp only [inO, Bool.and_eq_true, suO, vsO]
    refine ⟨?_, by simp⟩
    rw [norm_may hv]
    exact within_right _ hv
  · rw [if_neg e, if_neg e]; exact inO_refl _
theorem was_in_weak {s : Shp} (h : mayS s = true) (n : ByteArray) (v : List Atm) : withinS s (weakS s n v) = true := by
  refine (withinS_iff (ris_may h) (ris_withF (ris_may h))).2 ⟨within_refl _, fun m => ?_⟩
  rw [get_weak h]
  by_cases e : n = m
  · subst e
    rw [if_pos rfl]
    cases hg : getF s.fs n with
    | none => simp [inO, suO]
    | some f =>
      simp only [inO, suO, vsO, Bool.and_eq_true]
      refine ⟨within_left _ (okO_get h n f hg).2, ?_⟩
      cases f.su <;> rfl
  · rw [if_neg e]; exact inO_refl _
theorem strong_twice {s : Shp} (h : mayS s = true) (n : ByteArray) (u v : List Atm) : strongS (strongS s n u) n v = strongS s n v :=
  joinS_ext (ris_withF (ris_withF (ris_may h))) (ris_withF (ris_may h)) (fun m => by
    rw [get_strong (may_strong h n u), get_strong h, get_strong h]
    by_cases e : n = m
    · rw [if_pos e, if_pos e]
    · rw [if_neg e, if_neg e, if_neg e]) rfl

/-! Renaming. -/
def renF (k : Int) (f : Fld) : Fld := ⟨f.nm, f.su, rename f.vs k⟩
def renS (s : Shp) (k : Int) : Shp := ⟨s.fs.map (renF k), rename s.pr k⟩
theorem ris_ren {l : List Fld} (k : Int) (h : RisF l) : RisF (l.map (renF k)) := by unfold RisF; rw [List.pairwise_map]; exact h
theorem get_ren (l : List Fld) (k : Int) (n : ByteArray) : getF (l.map (renF k)) n = (getF l n).map (renF k) := by
  induction l with
  | nil => rfl
  | cons x r ih =>
    rw [List.map_cons, getF_cons, getF_cons, ih]
    show (if x.nm = n then _ else _) = _
    by_cases h : x.nm = n
    · rw [if_pos h, if_pos h]; rfl
    · rw [if_neg h, if_neg h]
theorem may_renS {s : Shp} (h : mayS s = true) (k : Int) : mayS (renS s k) = true :=
  (mayS_iff _).2 ⟨ris_ren k (ris_may h), fun f hf => by
    obtain ⟨g, _, rfl⟩ := List.mem_map.1 hf
    exact may_norm _, may_norm _⟩
theorem rename_nil (k : Int) : rename [] k = [] := rfl
theorem ren_cmb {n : ByteArray} {o p : Option Fld} (k : Int) : (cmb n o p).map (renF k) = cmb n (o.map (renF k)) (p.map (renF k)) := by
  cases o <;> cases p <;> simp only [cmb, Option.map_some, Option.map_none, renF, suO, vsO]
  · rw [rename_union, rename_nil]
  · rw [rename_union, rename_nil]
  · rw [rename_union]
theorem ren_join (a b : Shp) (k : Int) : renS (joinS a b) k = joinS (renS a k) (renS b k) :=
  joinS_ext (ris_ren k (ris_joinF _ _)) (ris_joinF _ _) (fun n => by
    show getF ((joinF a.fs b.fs).map _) n = getF (joinF (a.fs.map _) (b.fs.map _)) n
    rw [get_ren, get_joinF, get_joinF, get_ren, get_ren, ren_cmb]) (rename_union _ _ _)
theorem inO_ren {o p : Option Fld} (k : Int) (h : inO o p = true) : inO (o.map (renF k)) (p.map (renF k)) = true := by
  cases o <;> cases p <;> simp only [Option.map_some, Option.map_none, inO, renF, Bool.and_eq_true] at h ⊢
  · exact h
  · cases h
  · exact ⟨rename_within k h.1, h.2⟩
theorem ren_within {a b : Shp} (ha : mayS a = true) (hb : mayS b = true) (k : Int) (h : withinS a b = true) : withinS (renS a k) (renS b k) = true := by
  have h' := (withinS_iff (ris_may ha) (ris_may hb)).1 h
  refine (withinS_iff (ris_ren k (ris_may ha)) (ris_ren k (ris_may hb))).2 ⟨rename_within k h'.1, fun n => ?_⟩
  show inO (getF (a.fs.map _) n) (getF (b.fs.map _) n) = true
  rw [get_ren, get_ren]
  exact inO_ren k (h'.2 n)
theorem ren_again (s : Shp) (k : Int) : renS (renS s k) k = renS s k := by
  refine shp_ext ?_ (rename_again _ _)
  show (s.fs.map (renF k)).map (renF k) = s.fs.map (renF k)
  rw [List.map_map]
  refine List.map_congr_left fun f _ => ?_
  show (⟨f.nm, f.su, rename (rename f.vs k) k⟩ : Fld) = ⟨f.nm, f.su, rename f.vs k⟩
  rw [rename_again]

/-! How great they are. -/
def Sm (K : Nat) (s : Shp) : Prop := s.fs.length ≤ K ∧ (∀ f ∈ s.fs, f.vs.length ≤ K) ∧ s.pr.length ≤ K
theorem vsO_len {K : Nat} {s : Shp} (h : Sm K s) (n : ByteArray) : (vsO (getF s.fs n)).length ≤ K := by
  cases hg : getF s.fs n with
  | none => exact Nat.zero_le _
  | some f => exact h.2.1 f (getF_mem hg)
theorem sm_join {K L : Nat} {a b : Shp} (ha : Sm K a) (hb : Sm L b) : Sm (K + L) (joinS a b) := by
  refine ⟨Nat.le_trans (joinF_length _ _) (Nat.add_le_add ha.1 hb.1), fun f hf => ?_, ?_⟩
  · have := getF_of_mem (ris_joinF a.fs b.fs) hf
    rw [get_joinF] at this
    have key : f.vs = norm (vsO (getF a.fs f.nm) ++ vsO (getF b.fs f.nm)) := by
      revert this
      cases getF a.fs f.nm <;> cases getF b.fs f.nm <;> simp only [cmb, Option.some.injEq] <;> intro h
      · cases h
      all_goals (rw [← h])
    rw [key]
    have := norm_length (vsO (getF a.fs f.nm) ++ vsO (getF b.fs f.nm))
    rw [List.length_append] at this
    have h1 := vsO_len ha f.nm
    have h2 := vsO_len hb f.nm
    omega
  · have := norm_length (a.pr ++ b.pr)
    rw [List.length_append] at this
    have h1 := ha.2.2
    have h2 := hb.2.2
    exact Nat.le_trans this (by omega)
theorem sm_mono {K L : Nat} {s : Shp} (h : Sm K s) (hl : K ≤ L) : Sm L s := ⟨Nat.le_trans h.1 hl, fun f hf => Nat.le_trans (h.2.1 f hf) hl, Nat.le_trans h.2.2 hl⟩
theorem sm_with {K L : Nat} {s : Shp} {f : Fld} (h : Sm K s) (hK : K + 1 ≤ L) (hf : f.vs.length ≤ L) : Sm L ⟨withF f s.fs, s.pr⟩ := by
  refine ⟨?_, fun g hg => ?_, Nat.le_trans h.2.2 (by omega)⟩
  · have := withF_length f s.fs
    have := h.1
    show (withF f s.fs).length ≤ L
    omega
  · rcases mem_withF hg with e | e
    · rw [e]; exact hf
    · exact Nat.le_trans (h.2.1 g e) (by omega)
theorem rename_length (l : List Atm) (k : Int) : (rename l k).length ≤ l.length := by
  have := norm_length (l.map (ren k)); rw [List.length_map] at this; exact this
theorem sm_ren {K : Nat} {s : Shp} (h : Sm K s) (k : Int) : Sm K (renS s k) := by
  refine ⟨by show (s.fs.map _).length ≤ K; rw [List.length_map]; exact h.1, fun f hf => ?_, Nat.le_trans (rename_length _ _) h.2.2⟩
  obtain ⟨g, hg, rfl⟩ := List.mem_map.1 hf
  exact Nat.le_trans (rename_length _ _) (h.2.1 g hg)
def smallB (s : Shp) : Bool := s.fs.all (fun f => decide (f.vs.length ≤ 60)) && decide (s.fs.length ≤ 60) && decide (s.pr.length ≤ 60)
theorem small_sm {s : Shp} (h : smallB s = true) : Sm 60 s := by
  unfold smallB at h
  simp only [Bool.and_eq_true, List.all_eq_true, decide_eq_true_eq] at h
  exact ⟨h.1.2, h.1.1, h.2⟩
end M
end Go.Proofs.YtbaaeobdjiglgaaGreat

/-
  Lists that rise by a key, as mathematics: what stands at a key, what is put there, two of them side by side. Nothing of the program's code is walked here. No conditions.
-/
set_option linter.unusedVariables false
namespace Go.Proofs.YtbaaeobdjiglgaaGreat
namespace M
structure Key (κ : Type) where
  lt : κ → κ → Bool
  irrefl : ∀ a, lt a a = false
  trans : ∀ {a b c}, lt a b = true → lt b c = true → lt a c = true
  tri : ∀ {a b}, lt a b = false → lt b a = false → a = b
theorem Key.ne {κ : Type} (o : Key κ) {a b : κ} (h : o.lt a b = true) : a ≠ b := fun e => by subst e; rw [o.irrefl] at h; cases h
theorem Key.asymm {κ : Type} (o : Key κ) {a b : κ} (h : o.lt a b = true) : o.lt b a = false := by
  cases h2 : o.lt b a with
  | false => rfl
  | true => have := o.trans h h2; rw [o.irrefl] at this; cases this
section
variable {κ ν : Type} [DecidableEq κ] (o : Key κ)
def RisK (l : List (κ × ν)) : Prop := l.Pairwise fun x y => o.lt x.1 y.1 = true
def getK : List (κ × ν) → κ → Option ν
  | [], _ => none
  | x :: r, k => if x.1 = k then some x.2 else getK r k
theorem getK_none {l : List (κ × ν)} {k : κ} (h : ∀ x ∈ l, x.1 ≠ k) : getK l k = none := by
  induction l with
  | nil => rfl
  | cons x r ih =>
    unfold getK
    rw [if_neg (h x List.mem_cons_self), ih fun y hy => h y (List.mem_cons_of_mem _ hy)]
theorem getK_mem {l : List (κ × ν)} {k : κ} {v : ν} (h : getK l k = some v) : (k, v) ∈ l := by
  induction l with
  | nil => cases h
  | cons x r ih =>
    unfold getK at h
    split at h
    · rename_i e
      obtain ⟨a, b⟩ := x
      simp only [Option.some.injEq] at h
      simp only at e
      subst e h
      exact List.mem_cons_self
    · exact List.mem_cons_of_mem _ (ih h)
theorem getK_of_mem {l : List (κ × ν)} {k : κ} {v : ν} (hl : RisK o l) (h : (k, v) ∈ l) : getK l k = some v := by
  induction l with
  | nil => cases h
  | cons x r ih =>
    have a := List.pairwise_cons.1 hl
    unfold getK
    rcases List.mem_cons.1 h with e | e
    · rw [← e, if_pos rfl]
    · rw [if_neg (o.ne (a.1 _ e)), ih a.2 e]
theorem risK_ext {l m : List (κ × ν)} (hl : RisK o l) (hm : RisK o m) (h : ∀ k, getK l k = getK m k) : l = m := by
  induction l generalizing m with
  | nil =>
    cases m with
    | nil => rfl
    | cons y r => have := h y.1; unfold getK at this; rw [if_pos rfl] at this; cases this
  | cons x l ih =>
    cases m with
    | nil => have := h x.1; unfold getK at this; rw [if_pos rfl] at this; cases this
    | cons y m =>
      have a := List.pairwise_cons.1 hl
      have b := List.pairwise_cons.1 hm
      have hx : getK (y :: m) x.1 = some x.2 := by rw [← h]; unfold getK; rw [if_pos rfl]
      have hy : getK (x :: l) y.1 = some y.2 := by rw [h]; unfold getK; rw [if_pos rfl]
      have e : x = y := by
        rcases List.mem_cons.1 (getK_mem hx) with e | e
        · exact e
        · rcases List.mem_cons.1 (getK_mem hy) with f | f
          · exact f.symm
          · have := o.asymm (b.1 _ e); rw [a.1 _ f] at this; cases this
      subst e
      rw [ih a.2 b.2 fun k => ?_]
      have := h k
      unfold getK at this
      by_cases hk : x.1 = k
      · subst hk
        rw [getK_none fun z hz => (o.ne (a.1 z hz)).symm, getK_none fun z hz => (o.ne (b.1 z hz)).symm]
      · rw [if_neg hk, if_neg hk] at this; exact this
/-- with v at k -/
def putK (k : κ) (v : ν) : List (κ × ν) → List (κ × ν)
  | [] => [(k, v)]
  | y :: r => if k = y.1 then (k, v) :: r else if o.lt k y.1 then (k, v) :: y :: r else y :: putK k v r
theorem mem_putK {k : κ} {v : ν} {l : List (κ × ν)} {z : κ × ν} (h : z ∈ putK o k v l) : z = (k, v) ∨ z ∈ l := by
  induction l with
  | nil => exact .inl (by simpa [putK] using h)
  | cons y r ih =>
    unfold putK at h
    split at h
    · rcases List.mem_cons.1 h with h | h
      · exact .inl h
      · exact .inr (List.mem_cons_of_mem _ h)
    · split at h
      · exact List.mem_cons.1 h
      · rcases List.mem_cons.1 h with h | h
        · exact .inr (by rw [h]; exact List.mem_cons_self)
        · rcases ih h with h | h
          · exact .inl h
          · exact .inr (List.mem_cons_of_mem _ h)
theorem putK_length (k : κ) (v : ν) (l : List (κ × ν)) : (putK o k v l).length ≤ l.length + 1 := by
  induction l with
  | nil => exact Nat.le_refl _
  | cons y r ih => unfold putK; split; · simp
                   split; · simp
                   simp only [List.length_cons]; omega
theorem ris_putK {k : κ} {v : ν} {l : List (κ × ν)} (h : RisK o l) : RisK o (putK o k v l) := by
  induction l with
  | nil => exact List.pairwise_singleton _ _
  | cons y r ih =>
    have a := List.pairwise_cons.1 h
    unfold putK
    split
    · rename_i e
      exact List.pairwise_cons.2 ⟨fun z hz => by show o.lt k z.1 = true; rw [e]; exact a.1 z hz, a.2⟩
    · rename_i ne
      split
      · rename_i hl
        refine List.pairwise_cons.2 ⟨fun z hz => ?_, h⟩
        rcases List.mem_cons.1 hz with e | e
        · rw [e]; exact hl
        · exact o.trans hl (a.1 z e)
      · rename_i hl
        refine List.pairwise_cons.2 ⟨fun z hz => ?_, ih a.2⟩
        rcases mem_putK o hz with e | e
        · subst e
          show o.lt y.1 k = true
          cases h2 : o.lt y.1 k with
          | true => rfl
          | false => exact absurd (o.tri (by simpa using hl) h2) ne
        · exact a.1 z e
theorem get_putK {k : κ} {v : ν} (q : κ) {l : List (κ × ν)} (h : RisK o l) : getK (putK o k v l) q = if k = q then some v else getK l q := by
  induction l with
  | nil => simp [putK, getK]
  | cons y r ih =>
    have a := List.pairwise_cons.1 h
    unfold putK
    split
    · rename_i e
      simp only [getK]
      by_cases hq : k = q
      · rw [if_pos hq, if_pos hq]
      · rw [if_neg hq, if_neg hq, if_neg (by rw [← e]; exact hq)]
    · rename_i ne
      split
      · simp only [getK]
      · simp only [getK]
        rw [ih a.2]
        by_cases hq : k = q
        · rw [if_pos hq, if_neg (by rw [← hq]; exact fun e => ne e.symm), if_pos hq]
        · rw [if_neg hq, if_neg hq]
/-- what is put at one key behind the other -/
theorem get_fold (g : κ → ν) (q : κ) : ∀ (ks : List κ) {l : List (κ × ν)}, RisK o l → RisK o (ks.foldl (fun acc k => putK o k (g k) acc) l) ∧ getK (ks.foldl (fun acc k => putK o k (g k) acc) l) q = if q ∈ ks then some (g q) else getK l q
  | [], l, h => ⟨h, by simp⟩
  | k :: ks, l, h => by
    obtain ⟨h1, h2⟩ := get_fold g q ks (ris_putK o (k := k) (v := g k) h)
    refine ⟨h1, ?_⟩
    rw [List.foldl_cons, h2, get_putK o q h]
    by_cases hq : q ∈ ks
    · rw [if_pos hq, if_pos (List.mem_cons_of_mem _ hq)]
    · rw [if_neg hq]
      by_cases hk : k = q
      · subst hk; rw [if_pos rfl, if_pos List.mem_cons_self]
      · rw [if_neg hk, if_neg (fun e => by rcases List.mem_cons.1 e with e | e; · exact hk e.symm
                                           exact hq e)]
/-- two lists side by side -/
def pairK : List (κ × ν) → List (κ × ν) → List (κ × Option ν × Option ν)
  | [], b => b.map fun y => (y.1, none, some y.2)
  | x :: a, [] => (x :: a).map fun x => (x.1, some x.2, none)
  | x :: a, y :: b => if x.1 = y.1 then (x.1, some x.2, some y.2) :: pairK a b else if o.lt x.1 y.1 then (x.1, some x.2, none) :: pairK a (y :: b) else (y.1, none, some y.2) :: pairK (x :: a) b
termination_by a b => a.length + b.length
theorem getK_map {μ : Type} (f : κ → ν → μ) (l : List (κ × ν)) (k : κ) : getK (l.map fun x => (x.1, f x.1 x.2)) k = (getK l k).map (f k) := by
  induction l with
  | nil => rfl
  | cons x r ih =>
    simp only [List.map_cons, getK]
    by_cases h : x.1 = k
    · rw [if_pos h, if_pos h, ← h]; rfl
    · rw [if_neg h, if_neg h, ih]
/-- what is at a key in one of two -/
def both2 (p q : Option ν) : Option (Option ν × Option ν) := if p.isSome || q.isSome then some (p, q) else none
theorem get_pairK (k : κ) : ∀ {a b : List (κ × ν)}, RisK o a → RisK o b → getK (pairK o a b) k = both2 (getK a k) (getK b k)
  | [], b, _, hb => by
    unfold pairK
    rw [getK_map (fun _ v => ((none, some v) : Option ν × Option ν))]
    cases getK b k <;> simp [both2, getK]
  | x :: a, [], ha, _ => by
    unfold pairK
    rw [getK_map (fun _ v => ((some v, none) : Option ν × Option ν))]
    cases getK (x :: a) k <;> simp [both2, getK]
  | x :: a, y :: b, ha, hb => by
    have pa := List.pairwise_cons.1 ha
    have pb := List.pairwise_cons.1 hb
    unfold pairK
    split
    · rename_i e
      simp only [getK]
      by_cases hk : x.1 = k
      · rw [if_pos hk, if_pos hk, if_pos (by rw [← e]; exact hk)]; rfl
      · rw [if_neg hk, if_neg hk, if_neg (by rw [← e]; exact hk)]
        exact get_pairK k pa.2 pb.2
    · rename_i ne
      split
      · rename_i hl
        simp only [getK]
        by_cases hk : x.1 = k
        · rw [if_pos hk, if_pos hk, if_neg (by rw [← hk]; exact fun e => ne e.symm)]
          rw [getK_none fun z hz => fun e => by
            have := o.trans hl (pb.1 z hz)
            rw [e, ← hk, o.irrefl] at this; cases this]
          rfl
        · rw [if_neg hk, if_neg hk]
          have := get_pairK k pa.2 hb
          simp only [getK] at this
          exact this
      · rename_i hl
        have hl2 : o.lt y.1 x.1 = true := by
          cases h : o.lt y.1 x.1 with
          | true => rfl
          | false => exact absurd (o.tri (by simpa using hl) h) ne
        simp only [getK]
        by_cases hk : y.1 = k
        · rw [if_pos hk, if_neg (by rw [← hk]; exact ne), if_pos hk]
          rw [getK_none fun z hz => fun e => by
            have := o.trans hl2 (pa.1 z hz)
            rw [e, ← hk, o.irrefl] at this; cases this]
          rfl
        · rw [if_neg hk, if_neg hk]
          have := get_pairK k ha pb.2
          simp only [getK] at this
          exact this
termination_by a b => a.length + b.length
theorem mem_pairK {z : κ × Option ν × Option ν} : ∀ {a b : List (κ × ν)}, z ∈ pairK o a b → (∃ x ∈ a, x.1 = z.1) ∨ (∃ y ∈ b, y.1 = z.1)
  | [], b, h => by
    unfold pairK at h
    obtain ⟨y, hy, rfl⟩ := List.mem_map.1 h
    exact .inr ⟨y, hy, rfl⟩
  | x :: a, [], h => by
    unfold pairK at h
    obtain ⟨y, hy, rfl⟩ := List.mem_map.1 h
    exact .inl ⟨y, hy, rfl⟩
  | x :: a, y :: b, h => by
    unfold pairK at h
    split at h
    · rcases List.mem_cons.1 h with rfl | h
      · exact .inl ⟨x, List.mem_cons_self, rfl⟩
      · rcases mem_pairK h with ⟨u, hu, e⟩ | ⟨u, hu, e⟩
        · exact .inl ⟨u, List.mem_cons_of_mem _ hu, e⟩
        · exact .inr ⟨u, List.mem_cons_of_mem _ hu, e⟩
    · split at h
      · rcases List.mem_cons.1 h with rfl | h
        · exact .inl ⟨x, List.mem_cons_self, rfl⟩
        · rcases mem_pairK h with ⟨u, hu, e⟩ | ⟨u, hu, e⟩
          · exact .inl ⟨u, List.mem_cons_of_mem _ hu, e⟩
          · exact .inr ⟨u, hu, e⟩
      · rcases List.mem_cons.1 h with rfl | h
        · exact .inr ⟨y, List.mem_cons_self, rfl⟩
        · rcases mem_pairK h with ⟨u, hu, e⟩ | ⟨u, hu, e⟩
          · exact .inl ⟨u, hu, e⟩
          · exact .inr ⟨u, List.mem_cons_of_mem _ hu, e⟩
termination_by a b => a.length + b.length
theorem ris_pairK : ∀ {a b : List (κ × ν)}, RisK o a → RisK o b → RisK o (pairK o a b)
  | [], b, _, hb => by unfold pairK RisK; rw [List.pairwise_map]; exact hb
  | x :: a, [], ha, _ => by unfold pairK RisK; rw [List.pairwise_map]; exact ha
  | x :: a, y :: b, ha, hb => by
    have pa := List.pairwise_cons.1 ha
    have pb := List.pairwise_cons.1 hb
    unfold pairK
    split
    · rename_i e
      refine List.pairwise_cons.2 ⟨fun z hz => ?_, ris_pairK pa.2 pb.2⟩
      rcases mem_pairK o hz with ⟨u, hu, hz⟩ | ⟨u, hu, hz⟩
      · rw [← hz]; exact pa.1 u hu
      · rw [← hz]; show o.lt x.1 u.1 = true; rw [e]; exact pb.1 u hu
    · rename_i ne
      split
      · rename_i hl
        refine List.pairwise_cons.2 ⟨fun z hz => ?_, ris_pairK pa.2 hb⟩
        rcases mem_pairK o hz with ⟨u, hu, hz⟩ | ⟨u, hu, hz⟩
        · rw [← hz]; exact pa.1 u hu
        · rw [← hz]
          rcases List.mem_cons.1 hu with e | e
          · rw [e]; exact hl
          · exact o.trans hl (pb.1 u e)
      · rename_i hl
        have hl2 : o.lt y.1 x.1 = true := by
          cases h : o.lt y.1 x.1 with
          | true => rfl
          | false => exact absurd (o.tri (by simpa using hl) h) ne
        refine List.pairwise_cons.2 ⟨fun z hz => ?_, ris_pairK ha pb.2⟩
        rcases mem_pairK o hz with ⟨u, hu, hz⟩ | ⟨u, hu, hz⟩
        · rw [← hz]
          rcases List.mem_cons.1 hu with e | e
          · rw [e]; exact hl2
          · exact o.trans hl2 (pa.1 u e)
        · rw [← hz]; exact pb.1 u hu
termination_by a b => a.length + b.length
/-- both of two, by f -/
def joinK (f : Option ν → Option ν → ν) (a b : List (κ × ν)) : List (κ × ν) := (pairK o a b).map fun z => (z.1, f z.2.1 z.2.2)
theorem ris_joinK {f : Option ν → Option ν → ν} {a b : List (κ × ν)} (ha : RisK o a) (hb : RisK o b) : RisK o (joinK o f a b) := by
  unfold joinK RisK; rw [List.pairwise_map]; exact ris_pairK o ha hb
theorem get_joinK {f : Option ν → Option ν → ν} {a b : List (κ × ν)} (k : κ) (ha : RisK o a) (hb : RisK o b) : getK (joinK o f a b) k = (both2 (getK a k) (getK b k)).map fun z => f z.1 z.2 := by
  unfold joinK
  rw [getK_map (fun _ (z : Option ν × Option ν) => f z.1 z.2), get_pairK o k ha hb]
end
end M
end Go.Proofs.YtbaaeobdjiglgaaGreat

/-
  States as mathematics: variables by name, objects by atom; what may be, what is set and put, joins and what lies within. Nothing of the program's code is walked here. No conditions.
-/
set_option linter.unusedVariables false
namespace Go.Proofs.YtbaaeobdjiglgaaGreat
namespace M
def keyN : Key ByteArray := ⟨ltN, ltN_irrefl, ltN_trans, ltN_tri⟩
theorem ltA_irr (a : Atm) : ltA a a = false := by simp [ltA]
theorem ltA_tr {a b c : Atm} (h1 : ltA a b = true) (h2 : ltA b c = true) : ltA a c = true := by
  simp only [ltA, decide_eq_true_eq] at *; omega
theorem ltA_tri' {a b : Atm} (h1 : ltA a b = false) (h2 : ltA b a = false) : a = b := by
  simp only [ltA, decide_eq_false_iff_not] at *
  obtain ⟨ak, an⟩ := a
  obtain ⟨bk, bn⟩ := b
  simp only at h1 h2
  have e1 : ak = bk := by omega
  have e2 : an = bn := by omega
  rw [e1, e2]
def keyA : Key Atm := ⟨ltA, ltA_irr, ltA_tr, ltA_tri'⟩
def risDec {κ ν : Type} (o : Key κ) (l : List (κ × ν)) : Decidable (RisK o l) := inferInstanceAs (Decidable (List.Pairwise _ _))
structure Sta where
  dead : Bool
  vs : List (ByteArray × List Atm)
  ls : List (Atm × Shp)
  deriving DecidableEq
def nul : List Atm := [⟨0, 0⟩]
def placeB (x : Atm) : Bool := decide (x.k = 4 ∨ x.k = 5) && decide (0 ≤ x.n)
def maySt (s : Sta) : Bool := @decide (RisK keyN s.vs) (risDec keyN s.vs) && s.vs.all (fun x => mayL x.2) && @decide (RisK keyA s.ls) (risDec keyA s.ls) && s.ls.all (fun x => placeB x.1 && mayS x.2) && (!s.dead || (s.vs.isEmpty && s.ls.isEmpty))
structure MaySt (s : Sta) : Prop where
  vr : RisK keyN s.vs
  vm : ∀ n v, getK s.vs n = some v → mayL v = true
  lr : RisK keyA s.ls
  lm : ∀ x p, getK s.ls x = some p → placeB x = true ∧ mayS p = true
  dd : s.dead = true → s.vs = [] ∧ s.ls = []
theorem maySt_iff (s : Sta) : maySt s = true ↔ MaySt s := by
  unfold maySt
  simp only [Bool.and_eq_true, decide_eq_true_eq, List.all_eq_true, Bool.or_eq_true, Bool.not_eq_true', List.isEmpty_iff]
  constructor
  · rintro ⟨⟨⟨⟨h1, h2⟩, h3⟩, h4⟩, h5⟩
    exact ⟨h1, fun n v h => h2 _ (getK_mem h), h3, fun x p h => h4 _ (getK_mem h), fun h => by rcases h5 with h5 | h5; · rw [h] at h5; cases h5
                                                                                               exact h5⟩
  · rintro ⟨h1, h2, h3, h4, h5⟩
    refine ⟨⟨⟨⟨h1, fun x hx => h2 x.1 x.2 (getK_of_mem keyN h1 hx)⟩, h3⟩, fun x hx => h4 x.1 x.2 (getK_of_mem keyA h3 hx)⟩, ?_⟩
    cases h : s.dead with
    | false => exact .inl rfl
    | true => exact .inr (h5 h)
def varS (s : Sta) (n : ByteArray) : List Atm := (getK s.vs n).getD nul
def zeroSt : Sta := ⟨false, [], []⟩
def setS (s : Sta) (n : ByteArray) (v : List Atm) : Sta := if s.dead then s else ⟨false, putK keyN n (norm v) s.vs, s.ls⟩
def putS (s : Sta) (x : Atm) (p : Shp) : Sta := if s.dead then s else ⟨false, s.vs, putK keyA x p s.ls⟩
def varJ (p q : Option (List Atm)) : List Atm := norm (p.getD nul ++ q.getD nul)
def locJ : Option Shp → Option Shp → Shp
  | some x, some y => joinS x y
  | some x, none => x
  | none, some y => y
  | none, none => zeroS
def cmbV (p q : Option (List Atm)) : Option (List Atm) := (both2 p q).map fun z => varJ z.1 z.2
def cmbL (p q : Option Shp) : Option Shp := (both2 p q).map fun z => locJ z.1 z.2
def joinSt (a b : Sta) : Sta := if a.dead then b else if b.dead then a else ⟨false, joinK keyN varJ a.vs b.vs, joinK keyA locJ a.ls b.ls⟩
theorem getV_join {a b : Sta} (ha : MaySt a) (hb : MaySt b) (h1 : a.dead = false) (h2 : b.dead = false) (n : ByteArray) : getK (joinSt a b).vs n = cmbV (getK a.vs n) (getK b.vs n) := by
  unfold joinSt; rw [h1, h2]; exact get_joinK keyN n ha.vr hb.vr
theorem getL_join {a b : Sta} (ha : MaySt a) (hb : MaySt b) (h1 : a.dead = false) (h2 : b.dead = false) (x : Atm) : getK (joinSt a b).ls x = cmbL (getK a.ls x) (getK b.ls x) := by
  unfold joinSt; rw [h1, h2]; exact get_joinK keyA x ha.lr hb.lr
theorem join_dead {a b : Sta} : (joinSt a b).dead = (a.dead && b.dead) := by
  unfold joinSt
  cases h1 : a.dead with
  | true => simp
  | false =>
    cases h2 : b.dead with
    | true => simp [h1]
    | false => simp
theorem norm_congr {a b : List Atm} (h : ∀ z, okA z = true → (z ∈ a ↔ z ∈ b)) : norm a = norm b :=
  norm_eq (norm_rising a) fun z => by
    rw [mem_norm]
    constructor
    · rintro ⟨h1, h2⟩; exact ⟨(h z h2).1 h1, h2⟩
    · rintro ⟨h1, h2⟩; exact ⟨(h z h2).2 h1, h2⟩
theorem cmbV_comm (p q : Option (List Atm)) : cmbV p q = cmbV q p := by
  cases p <;> cases q <;> simp [cmbV, both2, varJ]
  all_goals exact norm_congr fun z _ => by simp only [List.mem_append, or_comm]
theorem joinS_self {x : Shp} (h : mayS x = true) : joinS x x = x := by
  have h1 := joinS_left (b := x) h
  have h2 := joinS_least h h h (withinS_refl x h) (withinS_refl x h)
  have := bothS h (may_joinS x x)
  rw [h1, h2] at this
  exact (of_decide_eq_true this.symm).symm
theorem cmbL_comm (p q : Option Shp) : cmbL p q = cmbL q p := by
  cases p <;> cases q <;> simp [cmbL, both2, locJ]
  exact joinS_comm _ _
theorem cmbV_again (p q : Option (List Atm)) : cmbV (cmbV p q) p = cmbV p q := by
  cases p <;> cases q <;> simp [cmbV, both2, varJ]
  all_goals exact norm_congr fun z hz => by simp only [List.mem_append, mem_norm, hz, and_true]; constructor <;> (intro h; first | (rcases h with (h | h) | h <;> simp [h]) | (rcases h with h | h <;> simp [h]))
theorem cmbV_assoc (p q r : Option (List Atm)) : cmbV (cmbV p q) r = cmbV p (cmbV q r) := by
  cases p <;> cases q <;> cases r <;> simp [cmbV, both2, varJ]
  all_goals exact norm_congr fun z hz => by simp only [List.mem_append, mem_norm, hz, and_true]; constructor <;> (intro h; first | (rcases h with (h | h) | h <;> simp [h]) | (rcases h with h | h | h <;> simp [h]) | (rcases h with h | h <;> simp [h]))
theorem cmbL_assoc (p q r : Option Shp) : cmbL (cmbL p q) r = cmbL p (cmbL q r) := by
  cases p <;> cases q <;> cases r <;> simp [cmbL, both2, locJ]
  exact joinS_assoc _ _ _
theorem cmbL_again {p : Option Shp} (q : Option Shp) (h : ∀ x, p = some x → mayS x = true) : cmbL (cmbL p q) p = cmbL p q := by
  cases p with
  | none => cases q <;> simp [cmbL, both2, locJ]
  | some x =>
    cases q with
    | none => simp [cmbL, both2, locJ]; exact joinS_self (h x rfl)
    | some y => simp [cmbL, both2, locJ]; exact joinS_again _ _
theorem sta_ext {a b : Sta} (ha : MaySt a) (hb : MaySt b) (hd : a.dead = b.dead) (h1 : ∀ n, getK a.vs n = getK b.vs n) (h2 : ∀ x, getK a.ls x = getK b.ls x) : a = b := by
  have e1 := risK_ext keyN ha.vr hb.vr h1
  have e2 := risK_ext keyA ha.lr hb.lr h2
  cases a; cases b; simp only at hd e1 e2; rw [hd, e1, e2]
theorem may_join {a b : Sta} (ha : MaySt a) (hb : MaySt b) : MaySt (joinSt a b) := by
  cases h1 : a.dead with
  | true => unfold joinSt; rw [if_pos h1]; exact hb
  | false =>
    cases h2 : b.dead with
    | true => unfold joinSt; rw [h1, if_neg (by decide), if_pos h2]; exact ha
    | false =>
      refine ⟨?_, fun n v h => ?_, ?_, fun x p h => ?_, fun h => ?_⟩
      · unfold joinSt; rw [h1, h2]; exact ris_joinK keyN ha.vr hb.vr
      · rw [getV_join ha hb h1 h2] at h
        unfold cmbV at h
        obtain ⟨z, _, rfl⟩ := Option.map_eq_some_iff.1 h
        exact may_norm _
      · unfold joinSt; rw [h1, h2]; exact ris_joinK keyA ha.lr hb.lr
      · rw [getL_join ha hb h1 h2] at h
        cases hp : getK a.ls x with
        | none =>
          cases hq : getK b.ls x with
          | none => rw [hp, hq] at h; simp [cmbL, both2] at h
          | some y => rw [hp, hq] at h; simp [cmbL, both2, locJ] at h; rw [← h]; exact hb.lm x y hq
        | some u =>
          cases hq : getK b.ls x with
          | none => rw [hp, hq] at h; simp [cmbL, both2, locJ] at h; rw [← h]; exact ha.lm x u hp
          | some y => rw [hp, hq] at h; simp [cmbL, both2, locJ] at h; rw [← h]; exact ⟨(ha.lm x u hp).1, may_joinS _ _⟩
      · rw [join_dead, h1] at h; cases h
theorem joinSt_comm {a b : Sta} (ha : MaySt a) (hb : MaySt b) : joinSt a b = joinSt b a := by
  cases h1 : a.dead with
  | true =>
    cases h2 : b.dead with
    | true =>
      have e1 := ha.dd h1
      have e2 := hb.dd h2
      unfold joinSt; rw [if_pos h1, if_pos h2]
      cases a; cases b; simp only at *; rw [h1, h2, e1.1, e1.2, e2.1, e2.2]
    | false => unfold joinSt; rw [if_pos h1, h2, if_neg (by decide), if_pos h1]
  | false =>
    cases h2 : b.dead with
    | true => unfold joinSt; rw [h1, if_neg (by decide), if_pos h2, if_pos h2]
    | false =>
      refine sta_ext (may_join ha hb) (may_join hb ha) (by rw [join_dead, join_dead, Bool.and_comm]) (fun n => ?_) (fun x => ?_)
      · rw [getV_join ha hb h1 h2, getV_join hb ha h2 h1, cmbV_comm]
      · rw [getL_join ha hb h1 h2, getL_join hb ha h2 h1, cmbL_comm]
end M
end Go.Proofs.YtbaaeobdjiglgaaGreat

/-
  States as mathematics: which lies within which; a join is the least that has both; what is set is got. Nothing of the program's code is walked here. No conditions.
-/
set_option linter.unusedVariables false
namespace Go.Proofs.YtbaaeobdjiglgaaGreat
namespace M
theorem all_pairK {κ ν : Type} [DecidableEq κ] (o : Key κ) {a b : List (κ × ν)} (ha : RisK o a) (hb : RisK o b) (P : Option ν → Option ν → Bool) (h0 : P none none = true) :
    (pairK o a b).all (fun z => P z.2.1 z.2.2) = true ↔ ∀ k, P (getK a k) (getK b k) = true := by
  rw [List.all_eq_true]
  constructor
  · intro h k
    have hg := get_pairK o k ha hb
    cases hp : getK a k with
    | none =>
      cases hq : getK b k with
      | none => exact h0
      | some y => rw [hp, hq] at hg; exact h _ (getK_mem hg)
    | some x =>
      rw [hp] at hg
      exact h _ (getK_mem (v := (some x, getK b k)) hg)
  · rintro h ⟨k, p, q⟩ hz
    have hg := get_pairK o k ha hb
    rw [getK_of_mem o (ris_pairK o ha hb) hz] at hg
    unfold both2 at hg
    split at hg
    · simp only [Option.some.injEq, Prod.mk.injEq] at hg
      obtain ⟨rfl, rfl⟩ := hg
      exact h k
    · cases hg
def inV (p q : Option (List Atm)) : Bool := within (p.getD nul) (q.getD nul)
def inL : Option Shp → Option Shp → Bool
  | some x, some y => withinS x y
  | some _, none => false
  | none, _ => true
def withinSt (a b : Sta) : Bool := a.dead || (!b.dead && (pairK keyN a.vs b.vs).all (fun z => inV z.2.1 z.2.2) && (pairK keyA a.ls b.ls).all (fun z => inL z.2.1 z.2.2))
theorem withinSt_iff {a b : Sta} (ha : MaySt a) (hb : MaySt b) (h1 : a.dead = false) : withinSt a b = true ↔ b.dead = false ∧ (∀ n, inV (getK a.vs n) (getK b.vs n) = true) ∧ ∀ x, inL (getK a.ls x) (getK b.ls x) = true := by
  unfold withinSt
  rw [h1, Bool.false_or, Bool.and_eq_true, Bool.and_eq_true, all_pairK keyN ha.vr hb.vr inV (by decide), all_pairK keyA ha.lr hb.lr inL rfl, Bool.not_eq_true', and_assoc]
theorem withinSt_dead {a b : Sta} (h : a.dead = true) : withinSt a b = true := by unfold withinSt; rw [h]; rfl
theorem may_nul : mayL nul = true := by decide
theorem mayV {s : Sta} (h : MaySt s) (n : ByteArray) : mayL ((getK s.vs n).getD nul) = true := by
  cases hg : getK s.vs n with
  | none => exact may_nul
  | some v => exact h.vm n v hg
theorem inV_refl (p : Option (List Atm)) : inV p p = true := within_refl _
theorem inV_trans {p q r : Option (List Atm)} (h1 : inV p q = true) (h2 : inV q r = true) : inV p r = true := by
  unfold inV at *; rw [within_iff] at *; exact fun x hx => h2 x (h1 x hx)
theorem inV_left {p : Option (List Atm)} (q : Option (List Atm)) (h : mayL (p.getD nul) = true) : inV p (cmbV p q) = true := by
  cases p <;> cases q
  · exact within_refl _
  all_goals exact within_left _ h
theorem inV_least {p q r : Option (List Atm)} (h1 : inV p r = true) (h2 : inV q r = true) : inV (cmbV p q) r = true := by
  cases p <;> cases q
  · exact h1
  all_goals exact union_least h1 h2
theorem within_tr {a b c : List Atm} (h1 : within a b = true) (h2 : within b c = true) : within a c = true := by
  rw [within_iff] at *; exact fun x hx => h2 x (h1 x hx)
theorem inO_trans {p q r : Option Fld} (h1 : inO p q = true) (h2 : inO q r = true) : inO p r = true := by
  cases p with
  | none =>
    cases r with
    | none => rfl
    | some g =>
      cases q with
      | none => exact h2
      | some f =>
        simp only [inO, Bool.and_eq_true, Bool.or_eq_true, Bool.not_eq_true'] at h1 h2 ⊢
        rcases h2.2 with h | h
        · exact h
        · rw [h1] at h; cases h
  | some f =>
    cases q with
    | none => cases h1
    | some g =>
      cases r with
      | none => cases h2
      | some k =>
        simp only [inO, Bool.and_eq_true, Bool.or_eq_true, Bool.not_eq_true'] at h1 h2 ⊢
        refine ⟨within_tr h1.1 h2.1, ?_⟩
        rcases h2.2 with h | h
        · exact .inl h
        · rcases h1.2 with h' | h'
          · rw [h] at h'; cases h'
          · exact .inr h'
theorem withinS_trans {a b c : Shp} (ha : mayS a = true) (hb : mayS b = true) (hc : mayS c = true) (h1 : withinS a b = true) (h2 : withinS b c = true) : withinS a c = true := by
  rw [withinS_iff (ris_may ha) (ris_may hb)] at h1
  rw [withinS_iff (ris_may hb) (ris_may hc)] at h2
  rw [withinS_iff (ris_may ha) (ris_may hc)]
  refine ⟨?_, fun n => inO_trans (h1.2 n) (h2.2 n)⟩
  have a1 := h1.1
  have a2 := h2.1
  rw [within_iff] at *
  exact fun x hx => a2 x (a1 x hx)
def MayO (p : Option Shp) : Prop := ∀ x, p = some x → mayS x = true
theorem mayO {s : Sta} (h : MaySt s) (x : Atm) : MayO (getK s.ls x) := fun p hp => (h.lm x p hp).2
theorem inL_refl {p : Option Shp} (h : MayO p) : inL p p = true := by
  cases p with
  | none => rfl
  | some x => exact withinS_refl x (h x rfl)
theorem inL_trans {p q r : Option Shp} (hp : MayO p) (hq : MayO q) (hr : MayO r) (h1 : inL p q = true) (h2 : inL q r = true) : inL p r = true := by
  cases p with
  | none => rfl
  | some x =>
    cases q with
    | none => cases h1
    | some y =>
      cases r with
      | none => cases h2
      | some z => exact withinS_trans (hp x rfl) (hq y rfl) (hr z rfl) h1 h2
theorem inL_left {p : Option Shp} (q : Option Shp) (h : MayO p) : inL p (cmbL p q) = true := by
  cases p with
  | none => rfl
  | some x =>
    cases q with
    | none => exact withinS_refl x (h x rfl)
    | some y => exact joinS_left (h x rfl)
theorem inL_least {p q r : Option Shp} (hp : MayO p) (hq : MayO q) (hr : MayO r) (h1 : inL p r = true) (h2 : inL q r = true) : inL (cmbL p q) r = true := by
  cases p with
  | none =>
    cases q with
    | none => rfl
    | some y => exact h2
  | some x =>
    cases q with
    | none => exact h1
    | some y =>
      cases r with
      | none => cases h1
      | some z => exact joinS_least (hp x rfl) (hq y rfl) (hr z rfl) h1 h2
theorem withinSt_refl {a : Sta} (ha : MaySt a) : withinSt a a = true := by
  cases h : a.dead with
  | true => exact withinSt_dead h
  | false => exact (withinSt_iff ha ha h).2 ⟨h, fun n => inV_refl _, fun x => inL_refl (mayO ha x)⟩
theorem withinSt_trans {a b c : Sta} (ha : MaySt a) (hb : MaySt b) (hc : MaySt c) (h1 : withinSt a b = true) (h2 : withinSt b c = true) : withinSt a c = true := by
  cases h : a.dead with
  | true => exact withinSt_dead h
  | false =>
    obtain ⟨d1, v1, l1⟩ := (withinSt_iff ha hb h).1 h1
    obtain ⟨d2, v2, l2⟩ := (withinSt_iff hb hc d1).1 h2
    exact (withinSt_iff ha hc h).2 ⟨d2, fun n => inV_trans (v1 n) (v2 n), fun x => inL_trans (mayO ha x) (mayO hb x) (mayO hc x) (l1 x) (l2 x)⟩
theorem joinSt_left {a b : Sta} (ha : MaySt a) (hb : MaySt b) : withinSt a (joinSt a b) = true := by
  cases h1 : a.dead with
  | true => exact withinSt_dead h1
  | false =>
    cases h2 : b.dead with
    | true => unfold joinSt; rw [h1, if_neg (by decide), if_pos h2]; exact withinSt_refl ha
    | false =>
      refine (withinSt_iff ha (may_join ha hb) h1).2 ⟨by rw [join_dead, h1]; rfl, fun n => ?_, fun x => ?_⟩
      · rw [getV_join ha hb h1 h2]; exact inV_left _ (mayV ha n)
      · rw [getL_join ha hb h1 h2]; exact inL_left _ (mayO ha x)
theorem joinSt_right {a b : Sta} (ha : MaySt a) (hb : MaySt b) : withinSt b (joinSt a b) = true := by
  rw [joinSt_comm ha hb]; exact joinSt_left hb ha
theorem joinSt_least {a b c : Sta} (ha : MaySt a) (hb : MaySt b) (hc : MaySt c) (h1 : withinSt a c = true) (h2 : withinSt b c = true) : withinSt (joinSt a b) c = true := by
  cases d1 : a.dead with
  | true => unfold joinSt; rw [if_pos d1]; exact h2
  | false =>
    cases d2 : b.dead with
    | true => unfold joinSt; rw [d1, if_neg (by decide), if_pos d2]; exact h1
    | false =>
      obtain ⟨e1, v1, l1⟩ := (withinSt_iff ha hc d1).1 h1
      obtain ⟨e2, v2, l2⟩ := (withinSt_iff hb hc d2).1 h2
      refine (withinSt_iff (may_join ha hb) hc (by rw [join_dead, d1]; rfl)).2 ⟨e1, fun n => ?_, fun x => ?_⟩
      · rw [getV_join ha hb d1 d2]; exact inV_least (v1 n) (v2 n)
      · rw [getL_join ha hb d1 d2]; exact inL_least (mayO ha x) (mayO hb x) (mayO hc x) (l1 x) (l2 x)
theorem joinSt_again {a b : Sta} (ha : MaySt a) (hb : MaySt b) : joinSt (joinSt a b) a = joinSt a b := by
  cases d1 : a.dead with
  | true =>
    have e : joinSt a b = b := by unfold joinSt; rw [if_pos d1]
    rw [e, joinSt_comm hb ha, e]
  | false =>
    have mj := may_join ha hb
    have dj : (joinSt a b).dead = false := by rw [join_dead, d1]; rfl
    refine sta_ext (may_join mj ha) mj (by rw [join_dead, dj]; rfl) (fun n => ?_) (fun x => ?_)
    · rw [getV_join mj ha dj d1]
      cases d2 : b.dead with
      | true =>
        have e : joinSt a b = a := by unfold joinSt; rw [d1, if_neg (by decide), if_pos d2]
        rw [e]
        have := cmbV_again (getK a.vs n) (getK a.vs n)
        cases hg : getK a.vs n with
        | none => rfl
        | some v =>
          show some (norm (v ++ v)) = some v
          have hm := ha.vm n v hg
          have : norm (v ++ v) = norm v := norm_congr fun z _ => by simp
          rw [this, norm_may hm]
      | false => rw [getV_join ha hb d1 d2, cmbV_again]
    · rw [getL_join mj ha dj d1]
      cases d2 : b.dead with
      | true =>
        have e : joinSt a b = a := by unfold joinSt; rw [d1, if_neg (by decide), if_pos d2]
        rw [e]
        cases hg : getK a.ls x with
        | none => rfl
        | some p => show some (joinS p p) = some p; rw [joinS_self (ha.lm x p hg).2]
      | false => rw [getL_join ha hb d1 d2, cmbL_again _ (mayO ha x)]
theorem join_right_dead {a b : Sta} (h1 : a.dead = false) (h2 : b.dead = true) : joinSt a b = a := by unfold joinSt; rw [h1, if_neg (by decide), if_pos h2]
theorem joinSt_assoc {a b c : Sta} (ha : MaySt a) (hb : MaySt b) (hc : MaySt c) : joinSt (joinSt a b) c = joinSt a (joinSt b c) := by
  cases d1 : a.dead with
  | true => unfold joinSt; rw [if_pos d1, if_pos d1]
  | false =>
    cases d2 : b.dead with
    | true =>
      have e : joinSt a b = a := by unfold joinSt; rw [d1, if_neg (by decide), if_pos d2]
      have e2 : joinSt b c = c := by unfold joinSt; rw [if_pos d2]
      rw [e, e2]
    | false =>
      have mab := may_join ha hb
      have mbc := may_join hb hc
      have dab : (joinSt a b).dead = false := by rw [join_dead, d1]; rfl
      have dbc : (joinSt b c).dead = false := by rw [join_dead, d2]; rfl
      cases d3 : c.dead with
      | true =>
        have e : joinSt (joinSt a b) c = joinSt a b := join_right_dead dab d3
        have e2 : joinSt b c = b := by unfold joinSt; rw [d2, if_neg (by decide), if_pos d3]
        rw [e, e2]
      | false =>
        refine sta_ext (may_join mab hc) (may_join ha mbc) (by simp only [join_dead, Bool.and_assoc]) (fun n => ?_) (fun x => ?_)
        · rw [getV_join mab hc dab d3, getV_join ha hb d1 d2, getV_join ha mbc d1 dbc, getV_join hb hc d2 d3, cmbV_assoc]
        · rw [getL_join mab hc dab d3, getL_join ha hb d1 d2, getL_join ha mbc d1 dbc, getL_join hb hc d2 d3, cmbL_assoc]
/-! What is set, what is put. -/
theorem may_set {s : Sta} (h : MaySt s) (n : ByteArray) (v : List Atm) : MaySt (setS s n v) := by
  unfold setS
  split
  · exact h
  · rename_i hd
    refine ⟨ris_putK keyN h.vr, fun m u hu => ?_, h.lr, h.lm, fun e => by cases e⟩
    have hu : getK (putK keyN n (norm v) s.vs) m = some u := hu
    rw [get_putK keyN m h.vr] at hu
    split at hu
    · cases hu; exact may_norm _
    · exact h.vm m u hu
theorem get_set {s : Sta} (h : MaySt s) (hd : s.dead = false) (n : ByteArray) (v : List Atm) (m : ByteArray) : getK (setS s n v).vs m = if n = m then some (norm v) else getK s.vs m := by
  unfold setS; rw [hd]; exact get_putK keyN m h.vr
theorem may_put {s : Sta} (h : MaySt s) {x : Atm} {p : Shp} (hx : placeB x = true) (hp : mayS p = true) : MaySt (putS s x p) := by
  unfold putS
  split
  · exact h
  · refine ⟨h.vr, h.vm, ris_putK keyA h.lr, fun y q hq => ?_, fun e => by cases e⟩
    have hq : getK (putK keyA x p s.ls) y = some q := hq
    rw [get_putK keyA y h.lr] at hq
    split at hq
    · rename_i e; cases hq; rw [← e]; exact ⟨hx, hp⟩
    · exact h.lm y q hq
theorem get_put {s : Sta} (h : MaySt s) (hd : s.dead = false) (x : Atm) (p : Shp) (y : Atm) : getK (putS s x p).ls y = if x = y then some p else getK s.ls y := by
  unfold putS; rw [hd]; exact get_putK keyA y h.lr
/-- StateJoined: what is set in both to the same is that -/
theorem join_set {a b : Sta} (ha : MaySt a) (hb : MaySt b) (h1 : a.dead = false) (h2 : b.dead = false) (n : ByteArray) {v : List Atm} (hv : mayL v = true) : joinSt (setS a n v) (setS b n v) = setS (joinSt a b) n v := by
  have ma := may_set ha n v
  have mb := may_set hb n v
  have mj := may_join ha hb
  have da : (setS a n v).dead = false := by unfold setS; rw [h1]; rfl
  have db : (setS b n v).dead = false := by unfold setS; rw [h2]; rfl
  have dj : (joinSt a b).dead = false := by rw [join_dead, h1]; rfl
  have la : (setS a n v).ls = a.ls := by unfold setS; rw [h1]; rfl
  have lb : (setS b n v).ls = b.ls := by unfold setS; rw [h2]; rfl
  have lj : (setS (joinSt a b) n v).ls = (joinSt a b).ls := by unfold setS; rw [dj]; rfl
  refine sta_ext (may_join ma mb) (may_set mj n v) (by rw [join_dead, da]; unfold setS; rw [dj]; rfl) (fun m => ?_) (fun x => ?_)
  · rw [getV_join ma mb da db, get_set ha h1, get_set hb h2, get_set mj dj]
    by_cases e : n = m
    · rw [if_pos e, if_pos e, if_pos e]
      show some (norm (norm v ++ norm v)) = some (norm v)
      rw [norm_may hv]
      have : norm (v ++ v) = norm v := norm_congr fun z _ => by simp
      rw [this, norm_may hv]
    · rw [if_neg e, if_neg e, if_neg e, getV_join ha hb h1 h2]
  · rw [getL_join ma mb da db, la, lb, lj, getL_join ha hb h1 h2]
end M
end Go.Proofs.YtbaaeobdjiglgaaGreat

/-
  Lists that rise by a key, as mathematics: the document's Set and Put, one step behind the other; where the program finds a key, and how it puts there. Nothing of the program's code is walked here. No conditions.
-/
set_option linter.unusedVariables false
namespace Go.Proofs.YtbaaeobdjiglgaaGreat
namespace M
section
variable {κ ν : Type} [DecidableEq κ] (o : Key κ)
/-- the document's loop: whether it is laid, what there is, what is still to come -/
def putLoop (k : κ) (v : ν) : Bool → List (κ × ν) → List (κ × ν) → List (κ × ν)
  | true, acc, [] => acc
  | false, acc, [] => acc ++ [(k, v)]
  | true, acc, y :: r => if y.1 = k then putLoop k v true acc r else putLoop k v true (acc ++ [y]) r
  | false, acc, y :: r => if o.lt y.1 k then putLoop k v false (acc ++ [y]) r else if y.1 = k then putLoop k v true (acc ++ [(k, v)]) r else putLoop k v true (acc ++ [(k, v)] ++ [y]) r
theorem putLoop_true {k : κ} {v : ν} : ∀ {r acc : List (κ × ν)}, (∀ z ∈ r, z.1 ≠ k) → putLoop o k v true acc r = acc ++ r
  | [], acc, _ => by simp [putLoop]
  | y :: r, acc, h => by
    unfold putLoop
    rw [if_neg (h y List.mem_cons_self), putLoop_true fun z hz => h z (List.mem_cons_of_mem _ hz), List.append_assoc]; rfl
theorem putLoop_false {k : κ} {v : ν} : ∀ {l acc : List (κ × ν)}, RisK o l → putLoop o k v false acc l = acc ++ putK o k v l
  | [], acc, _ => rfl
  | y :: r, acc, h => by
    have a := List.pairwise_cons.1 h
    unfold putLoop putK
    cases hl : o.lt y.1 k with
    | true =>
      rw [if_pos rfl, if_neg (fun e => o.ne hl e.symm), if_neg (by rw [o.asymm hl]; decide), putLoop_false a.2, List.append_assoc]; rfl
    | false =>
      rw [if_neg (by decide)]
      by_cases e : y.1 = k
      · rw [if_pos e, if_pos e.symm, putLoop_true o fun z hz q => o.ne (a.1 z hz) (by rw [q]; exact e), List.append_assoc]; rfl
      · have hl2 : o.lt k y.1 = true := by
          cases h2 : o.lt k y.1 with
          | true => rfl
          | false => exact absurd (o.tri hl h2) e
        rw [if_neg e, if_neg (fun q => e q.symm), if_pos hl2, putLoop_true o fun z hz q => by
          have := o.trans hl2 (a.1 z hz)
          rw [q, o.irrefl] at this; cases this]
        simp
/-- where the program finds a key: the first one, or where it would stand -/
def placeK (k : κ) : Nat → Nat → List (κ × ν) → Nat × Bool
  | _, w, [] => (w, false)
  | i, w, y :: r => if y.1 = k then (i, true) else if o.lt y.1 k then placeK k (i + 1) (i + 1) r else placeK k (i + 1) w r
theorem placeK_get {k : κ} : ∀ {l : List (κ × ν)} {i w : Nat}, (placeK o k i w l).2 = (getK l k).isSome ∧ ((placeK o k i w l).2 = true → ∃ p, (placeK o k i w l).1 = i + p ∧ ∃ h : p < l.length, l[p].1 = k ∧ getK l k = some l[p].2)
  | [], i, w => ⟨rfl, fun h => by cases h⟩
  | y :: r, i, w => by
    unfold placeK getK
    by_cases e : y.1 = k
    · rw [if_pos e, if_pos e]
      exact ⟨rfl, fun _ => ⟨0, rfl, by simp, e, rfl⟩⟩
    · rw [if_neg e, if_neg e]
      have step : ∀ w', (placeK o k (i + 1) w' r).2 = (getK r k).isSome ∧ ((placeK o k (i + 1) w' r).2 = true → ∃ p, (placeK o k (i + 1) w' r).1 = i + p ∧ ∃ h : p < (y :: r).length, (y :: r)[p].1 = k ∧ getK r k = some (y :: r)[p].2) := fun w' => by
        obtain ⟨h1, h2⟩ := placeK_get (k := k) (l := r) (i := i + 1) (w := w')
        refine ⟨h1, fun h => ?_⟩
        obtain ⟨p, hp, hlt, hk, hg⟩ := h2 h
        exact ⟨p + 1, by rw [hp]; omega, by simpa using hlt, hk, hg⟩
      split
      · exact step _
      · exact step _
/-- in a list that rises: all ahead are below, all behind are not -/
theorem placeK_rise {k : κ} : ∀ {l : List (κ × ν)} {i w : Nat}, RisK o l → w ≤ i → (placeK o k i w l).2 = false →
    ((placeK o k i w l).1 = w ∧ (∀ z ∈ l, o.lt k z.1 = true)) ∨ ∃ p, (placeK o k i w l).1 = i + p + 1 ∧ p < l.length ∧ (∀ q (h : q < l.length), q ≤ p → o.lt l[q].1 k = true) ∧ ∀ q (h : q < l.length), p < q → o.lt k l[q].1 = true
  | [], i, w, _, _, _ => .inl ⟨rfl, fun z hz => by cases hz⟩
  | y :: r, i, w, h, hw, hf => by
    have a := List.pairwise_cons.1 h
    unfold placeK at hf ⊢
    by_cases e : y.1 = k
    · rw [if_pos e] at hf; cases hf
    · rw [if_neg e] at hf ⊢
      cases hl : o.lt y.1 k with
      | true =>
        rw [hl, if_pos rfl] at hf
        rw [if_pos rfl]
        refine .inr ?_
        rcases placeK_rise a.2 (Nat.le_refl _) hf with ⟨h1, h2⟩ | ⟨p, h1, hp, h2, h3⟩
        · refine ⟨0, h1, by simp, fun q hq hq0 => ?_, fun q hq hq0 => ?_⟩
          · have : q = 0 := by omega
            subst this; exact hl
          · obtain ⟨q, rfl⟩ : ∃ n, q = n + 1 := ⟨q - 1, by omega⟩
            exact h2 _ (List.getElem_mem (by simpa using hq))
        · refine ⟨p + 1, by rw [h1]; omega, by simpa using hp, fun q hq hqp => ?_, fun q hq hqp => ?_⟩
          · cases q with
            | zero => exact hl
            | succ q => exact h2 q (by simpa using hq) (by omega)
          · obtain ⟨q, rfl⟩ : ∃ n, q = n + 1 := ⟨q - 1, by omega⟩
            exact h3 q (by simpa using hq) (by omega)
      | false =>
        rw [hl, if_neg (by decide)] at hf
        rw [if_neg (by decide)]
        have hl2 : o.lt k y.1 = true := by
          cases h2 : o.lt k y.1 with
          | true => rfl
          | false => exact absurd (o.tri hl h2) e
        have hall : ∀ z ∈ r, o.lt k z.1 = true := fun z hz => o.trans hl2 (a.1 z hz)
        rcases placeK_rise a.2 (Nat.le_succ_of_le hw) hf with ⟨h1, h2⟩ | ⟨p, h1, hp, h2, h3⟩
        · refine .inl ⟨h1, fun z hz => ?_⟩
          rcases List.mem_cons.1 hz with q | q
          · rw [q]; exact hl2
          · exact hall z q
        · have c1 := h2 0 (by omega) (Nat.zero_le _)
          have c2 := hall _ (List.getElem_mem (show 0 < r.length by omega))
          rw [o.asymm c2] at c1; cases c1
/-- put where it stands -/
theorem set_putK {k : κ} {v : ν} : ∀ {l : List (κ × ν)} {p : Nat}, RisK o l → (hp : p < l.length) → l[p].1 = k → l.set p (k, v) = putK o k v l
  | [], p, _, hp, _ => absurd hp (by simp)
  | y :: r, 0, _, _, e => by
    have e' : y.1 = k := e
    unfold putK
    rw [if_pos e'.symm]; rfl
  | y :: r, p + 1, h, hp, e => by
    have a := List.pairwise_cons.1 h
    have hp' : p < r.length := by simpa using hp
    have e' : r[p].1 = k := e
    have hl : o.lt y.1 k = true := by rw [← e']; exact a.1 _ (List.getElem_mem hp')
    unfold putK
    rw [if_neg (fun h => o.ne hl h.symm), if_neg (by rw [o.asymm hl]; decide), List.set_cons_succ, set_putK a.2 hp' e']
/-- put where it would stand -/
theorem ins_putK {k : κ} {v : ν} : ∀ {l : List (κ × ν)} {p : Nat}, p ≤ l.length → (∀ i (h : i < l.length), i < p → o.lt l[i].1 k = true) → (∀ i (h : i < l.length), p ≤ i → o.lt k l[i].1 = true) → l.take p ++ (k, v) :: l.drop p = putK o k v l
  | [], 0, _, _, _ => rfl
  | [], p + 1, hp, _, _ => absurd hp (by simp)
  | y :: r, 0, _, _, h2 => by
    have hl : o.lt k y.1 = true := h2 0 (by simp) (Nat.le_refl _)
    unfold putK
    rw [if_neg (o.ne hl), if_pos hl]; rfl
  | y :: r, p + 1, hp, h1, h2 => by
    have hl : o.lt y.1 k = true := h1 0 (by simp) (by omega)
    unfold putK
    rw [if_neg (fun h => o.ne hl h.symm), if_neg (by rw [o.asymm hl]; decide), List.take_succ_cons, List.drop_succ_cons, List.cons_append, ins_putK (by simpa using hp) (fun i hi hip => h1 (i + 1) (by simpa using hi) (by omega)) (fun i hi hip => h2 (i + 1) (by simpa using hi) (by omega))]
/-- the program's put, of a list that rises -/
theorem put_place {k : κ} {v : ν} {l : List (κ × ν)} (h : RisK o l) : (if (placeK o k 0 0 l).2 then l.set (placeK o k 0 0 l).1 (k, v) else l.take (placeK o k 0 0 l).1 ++ (k, v) :: l.drop (placeK o k 0 0 l).1) = putK o k v l := by
  cases ht : (placeK o k 0 0 l).2 with
  | true =>
    obtain ⟨p, hp, hlt, hk, _⟩ := placeK_get (o := o) (k := k) (l := l) (i := 0) (w := 0) |>.2 ht
    rw [if_pos rfl, hp, Nat.zero_add]
    exact set_putK o h hlt hk
  | false =>
    rw [if_neg (by decide)]
    rcases placeK_rise o h (Nat.le_refl 0) ht with ⟨h1, h2⟩ | ⟨p, h1, hp, h2, h3⟩
    · rw [h1]
      exact ins_putK o (Nat.zero_le _) (fun i hi hip => absurd hip (Nat.not_lt_zero _)) (fun i hi _ => h2 _ (List.getElem_mem hi))
    · rw [h1, Nat.zero_add]
      exact ins_putK o (by omega) (fun i hi hip => h2 i hi (by omega)) (fun i hi hip => h3 i hi (by omega))
end
end M
end Go.Proofs.YtbaaeobdjiglgaaGreat

/-
  States as mathematics: their texts; few variables, objects, properties, atoms, and how many there are in a join. Nothing of the program's code is walked here. No conditions.
-/
set_option linter.unusedVariables false
namespace Go.Proofs.YtbaaeobdjiglgaaGreat
namespace M
def fldT (f : Fld) : List UInt8 := 32 :: (f.nm.data.toList ++ (if f.su then [33] else [63]) ++ [40] ++ textB f.vs ++ [41])
def varT (b : ByteArray × List Atm) : List UInt8 := b.1.data.toList ++ [58, 32] ++ textB b.2 ++ [10]
def locT (z : Atm × Shp) : List UInt8 := textB [z.1] ++ [58] ++ z.2.fs.flatMap fldT ++ [32, 112, 114, 111, 116, 111, 32, 40] ++ textB z.2.pr ++ [41]
def textSt (s : Sta) : List UInt8 := if s.dead then [100, 101, 97, 100, 10] else s.vs.flatMap varT ++ s.ls.flatMap (fun z => locT z ++ [10])
theorem flat_step {α : Type} (f : α → List UInt8) {l : List α} {j : Nat} (h : j < l.length) : (l.take (j + 1)).flatMap f = (l.take j).flatMap f ++ f l[j] := by
  rw [List.take_succ_eq_append_getElem h, List.flatMap_append]; simp
theorem flat_full {α : Type} (f : α → List UInt8) {l : List α} {j : Nat} (h : l.length ≤ j) : (l.take j).flatMap f = l.flatMap f := by rw [List.take_of_length_le h]
/-! Few. -/
def smallSt (s : Sta) : Bool := decide (s.vs.length ≤ 40) && decide (s.ls.length ≤ 40) && s.vs.all (fun b => decide (b.2.length ≤ 40)) && s.ls.all (fun z => decide (z.2.fs.length ≤ 40) && decide (z.2.pr.length ≤ 40) && z.2.fs.all (fun f => decide (f.vs.length ≤ 40)))
structure SmSt (K : Nat) (s : Sta) : Prop where
  vl : s.vs.length ≤ K
  vv : ∀ z ∈ s.vs, z.2.length ≤ K
  ll : s.ls.length ≤ K
  lv : ∀ z ∈ s.ls, Sm K z.2
theorem small_smSt {s : Sta} (h : smallSt s = true) : SmSt 40 s := by
  unfold smallSt at h
  simp only [Bool.and_eq_true, decide_eq_true_eq, List.all_eq_true] at h
  obtain ⟨⟨⟨h1, h2⟩, h3⟩, h4⟩ := h
  exact ⟨h1, h3, h2, fun z hz => ⟨(h4 z hz).1.1, (h4 z hz).2, (h4 z hz).1.2⟩⟩
theorem smSt_mono {K L : Nat} {s : Sta} (h : SmSt K s) (hl : K ≤ L) : SmSt L s := ⟨Nat.le_trans h.vl hl, fun z hz => Nat.le_trans (h.vv z hz) hl, Nat.le_trans h.ll hl, fun z hz => sm_mono (h.lv z hz) hl⟩
theorem smSt_zero (K : Nat) : SmSt K zeroSt := ⟨Nat.zero_le _, (fun z hz => by cases hz), Nat.zero_le _, (fun z hz => by cases hz)⟩
section
variable {κ ν : Type} [DecidableEq κ] (o : Key κ)
theorem pairK_length : ∀ (a b : List (κ × ν)), (pairK o a b).length ≤ a.length + b.length
  | [], b => by unfold pairK; simp
  | x :: a, [] => by unfold pairK; simp
  | x :: a, y :: b => by
    unfold pairK
    split
    · have := pairK_length a b; simp only [List.length_cons]; omega
    · split
      · have := pairK_length a (y :: b); simp only [List.length_cons] at *; omega
      · have := pairK_length (x :: a) b; simp only [List.length_cons] at *; omega
termination_by a b => a.length + b.length
theorem pairK_from {z : κ × Option ν × Option ν} : ∀ {a b : List (κ × ν)}, z ∈ pairK o a b → (∀ v, z.2.1 = some v → ∃ k, (k, v) ∈ a) ∧ (∀ v, z.2.2 = some v → ∃ k, (k, v) ∈ b)
  | [], b, h => by
    unfold pairK at h
    obtain ⟨y, hy, rfl⟩ := List.mem_map.1 h
    exact ⟨fun v e => (by cases e), fun v e => ⟨y.1, by cases e; exact hy⟩⟩
  | x :: a, [], h => by
    unfold pairK at h
    obtain ⟨y, hy, rfl⟩ := List.mem_map.1 h
    exact ⟨fun v e => ⟨y.1, by cases e; exact hy⟩, fun v e => (by cases e)⟩
  | x :: a, y :: b, h => by
    unfold pairK at h
    split at h
    · rcases List.mem_cons.1 h with rfl | h
      · exact ⟨fun v e => ⟨x.1, by cases e; exact List.mem_cons_self⟩, fun v e => ⟨y.1, by cases e; exact List.mem_cons_self⟩⟩
      · obtain ⟨h1, h2⟩ := pairK_from h
        exact ⟨fun v e => (h1 v e).imp fun k hk => List.mem_cons_of_mem _ hk, fun v e => (h2 v e).imp fun k hk => List.mem_cons_of_mem _ hk⟩
    · split at h
      · rcases List.mem_cons.1 h with rfl | h
        · exact ⟨fun v e => ⟨x.1, by cases e; exact List.mem_cons_self⟩, fun v e => (by cases e)⟩
        · obtain ⟨h1, h2⟩ := pairK_from h
          exact ⟨fun v e => (h1 v e).imp fun k hk => List.mem_cons_of_mem _ hk, h2⟩
      · rcases List.mem_cons.1 h with rfl | h
        · exact ⟨fun v e => (by cases e), fun v e => ⟨y.1, by cases e; exact List.mem_cons_self⟩⟩
        · obtain ⟨h1, h2⟩ := pairK_from h
          exact ⟨h1, fun v e => (h2 v e).imp fun k hk => List.mem_cons_of_mem _ hk⟩
termination_by a b => a.length + b.length
end
theorem smSt_join {K : Nat} {a b : Sta} (hK : 1 ≤ K) (ha : SmSt K a) (hb : SmSt K b) : SmSt (K + K) (joinSt a b) := by
  unfold joinSt
  split
  · exact smSt_mono hb (by omega)
  · split
    · exact smSt_mono ha (by omega)
    · have len : ∀ (p : Option (List Atm)), (∀ v, p = some v → v.length ≤ K) → (p.getD nul).length ≤ K := fun p hp => by
        cases p with
        | none => exact hK
        | some v => exact hp v rfl
      refine ⟨?_, fun z hz => ?_, ?_, fun z hz => ?_⟩
      · show (List.map _ _).length ≤ _
        rw [List.length_map]
        have := pairK_length keyN a.vs b.vs
        have := ha.vl; have := hb.vl; omega
      · obtain ⟨w, hw, rfl⟩ := List.mem_map.1 hz
        obtain ⟨h1, h2⟩ := pairK_from keyN hw
        have e1 := len w.2.1 fun v e => by obtain ⟨k, hk⟩ := h1 v e; exact ha.vv _ hk
        have e2 := len w.2.2 fun v e => by obtain ⟨k, hk⟩ := h2 v e; exact hb.vv _ hk
        show (norm _).length ≤ _
        refine Nat.le_trans (norm_length _) ?_
        rw [List.length_append]; omega
      · show (List.map _ _).length ≤ _
        rw [List.length_map]
        have := pairK_length keyA a.ls b.ls
        have := ha.ll; have := hb.ll; omega
      · obtain ⟨⟨x, p, q⟩, hw, rfl⟩ := List.mem_map.1 hz
        obtain ⟨h1, h2⟩ := pairK_from keyA hw
        show Sm (K + K) (locJ p q)
        cases p with
        | none =>
          cases q with
          | none => exact ⟨Nat.zero_le _, (fun f hf => by cases hf), Nat.zero_le _⟩
          | some y => obtain ⟨k, hk⟩ := h2 y rfl; exact sm_mono (hb.lv _ hk) (by omega)
        | some u =>
          obtain ⟨k, hk⟩ := h1 u rfl
          cases q with
          | none => exact sm_mono (ha.lv _ hk) (by omega)
          | some y => obtain ⟨k', hk'⟩ := h2 y rfl; exact sm_join (ha.lv _ hk) (hb.lv _ hk')
theorem smSt_set {K L : Nat} {s : Sta} (h : SmSt K s) (hK : K + 1 ≤ L) (n : ByteArray) {v : List Atm} (hv : v.length ≤ L) : SmSt L (setS s n v) := by
  unfold setS
  split
  · exact smSt_mono h (by omega)
  · refine ⟨Nat.le_trans (putK_length keyN n (norm v) s.vs) (by have := h.vl; omega), fun z hz => ?_, Nat.le_trans h.ll (by omega), fun z hz => sm_mono (h.lv z hz) (by omega)⟩
    rcases mem_putK keyN hz with e | e
    · rw [e]; exact Nat.le_trans (norm_length v) hv
    · exact Nat.le_trans (h.vv z e) (by omega)
theorem smSt_put {K L : Nat} {s : Sta} (h : SmSt K s) (hK : K + 1 ≤ L) (x : Atm) {p : Shp} (hp : Sm L p) : SmSt L (putS s x p) := by
  unfold putS
  split
  · exact smSt_mono h (by omega)
  · refine ⟨Nat.le_trans h.vl (by omega), fun z hz => Nat.le_trans (h.vv z hz) (by omega), Nat.le_trans (putK_length keyA x p s.ls) (by have := h.ll; omega), fun z hz => ?_⟩
    rcases mem_putK keyA hz with e | e
    · rw [e]; exact hp
    · exact sm_mono (h.lv z e) (by omega)
end M
end Go.Proofs.YtbaaeobdjiglgaaGreat

/-
  A site's newest object grows old, and a new one is made, as mathematics. Nothing of the program's code is walked here. No conditions.
-/
set_option linter.unusedVariables false
set_option linter.unusedSimpArgs false
namespace Go.Proofs.YtbaaeobdjiglgaaGreat
namespace M
def agedV (vs : List (ByteArray × List Atm)) (k : Int) : List (ByteArray × List Atm) := vs.map fun z => (z.1, rename z.2 k)
def dropL (ls : List (Atm × Shp)) (k : Int) : List (Atm × Shp) := (ls.filter fun z => decide (z.1 ≠ ⟨4, k⟩)).map fun z => (z.1, renS z.2 k)
/-- all renamed, and without the newest object -/
def renamedSt (s : Sta) (k : Int) : Sta := ⟨s.dead, agedV s.vs k, dropL s.ls k⟩
def ageSt (s : Sta) (k : Int) : Sta := match getK s.ls ⟨4, k⟩ with
  | none => renamedSt s k
  | some o => putS (renamedSt s k) ⟨5, k⟩ (locJ (some (renS o k)) ((getK s.ls ⟨5, k⟩).map (renS · k)))
def allocSt (s : Sta) (n : ByteArray) (k : Int) (o : Shp) : Sta := setS (putS (ageSt s k) ⟨4, k⟩ (renS o k)) n [⟨4, k⟩]
theorem get_agedV (vs : List (ByteArray × List Atm)) (k : Int) (n : ByteArray) : getK (agedV vs k) n = (getK vs n).map (rename · k) := getK_map (fun _ v => rename v k) vs n
theorem getK_filter {κ ν : Type} [DecidableEq κ] (k q : κ) : ∀ l : List (κ × ν), getK (l.filter fun z => decide (z.1 ≠ k)) q = if q = k then none else getK l q
  | [] => by simp [getK]
  | x :: r => by
    have ih := getK_filter k q r
    by_cases h : x.1 = k
    · rw [List.filter_cons_of_neg (by simp [h]), ih]
      by_cases hq : q = k
      · rw [if_pos hq, if_pos hq]
      · rw [if_neg hq, if_neg hq]
        unfold getK
        rw [if_neg (by rw [h]; exact fun e => hq e.symm)]
        cases r <;> rfl
    · rw [List.filter_cons_of_pos (by simp [h])]
      by_cases hq : q = k
      · rw [if_pos hq]
        unfold getK
        rw [if_neg (by rw [hq]; exact h), ih, if_pos hq]
      · rw [if_neg hq]
        rw [if_neg hq] at ih
        show (if x.1 = q then some x.2 else getK (List.filter _ r) q) = (if x.1 = q then some x.2 else getK r q)
        rw [ih]
theorem get_dropL (ls : List (Atm × Shp)) (k : Int) (y : Atm) : getK (dropL ls k) y = if y = ⟨4, k⟩ then none else (getK ls y).map (renS · k) := by
  unfold dropL
  rw [getK_map (fun _ p => renS p k), getK_filter]
  split <;> rfl
theorem ris_agedV {vs : List (ByteArray × List Atm)} (k : Int) (h : RisK keyN vs) : RisK keyN (agedV vs k) := by unfold RisK agedV; rw [List.pairwise_map]; exact h
theorem ris_dropL {ls : List (Atm × Shp)} (k : Int) (h : RisK keyA ls) : RisK keyA (dropL ls k) := by unfold RisK dropL; rw [List.pairwise_map]; exact List.Pairwise.filter _ h
theorem map_some {α β : Type} {f : α → β} {o : Option α} {y : β} (h : o.map f = some y) : ∃ x, o = some x ∧ f x = y := by
  cases o with
  | none => cases h
  | some x => exact ⟨x, rfl, by simpa using h⟩
theorem may_renamedSt {s : Sta} (h : MaySt s) (k : Int) : MaySt (renamedSt s k) where
  vr := ris_agedV k h.vr
  vm n v e := by
    have e : getK (agedV s.vs k) n = some v := e
    rw [get_agedV] at e
    obtain ⟨x, _, rfl⟩ := map_some e
    exact may_norm _
  lr := ris_dropL k h.lr
  lm x p e := by
    have e : getK (dropL s.ls k) x = some p := e
    rw [get_dropL] at e
    split at e
    · cases e
    · obtain ⟨q, hq, rfl⟩ := map_some e
      exact ⟨(h.lm x q hq).1, may_renS (h.lm x q hq).2 k⟩
  dd e := by
    have e : s.dead = true := e
    obtain ⟨h1, h2⟩ := h.dd e
    show agedV s.vs k = [] ∧ dropL s.ls k = []
    rw [h1, h2]
    exact ⟨rfl, rfl⟩
theorem ne45 (k : Int) : (⟨5, k⟩ : Atm) ≠ ⟨4, k⟩ := fun e => by have := congrArg Atm.k e; simp at this
theorem place45 {k : Int} (hk : 0 ≤ k) : placeB ⟨4, k⟩ = true ∧ placeB ⟨5, k⟩ = true := by simp [placeB, hk]
theorem may_locJ {p q : Shp} {o : Option Shp} (hp : mayS p = true) (ho : ∀ x, o = some x → mayS x = true) : mayS (locJ (some p) o) = true := by
  cases o with
  | none => exact hp
  | some x => exact may_joinS _ _
theorem may_age {s : Sta} (h : MaySt s) {k : Int} (hk : 0 ≤ k) : MaySt (ageSt s k) := by
  unfold ageSt
  cases e : getK s.ls ⟨4, k⟩ with
  | none => exact may_renamedSt h k
  | some o =>
    refine may_put (may_renamedSt h k) (place45 hk).2 (may_locJ (q := o) (may_renS (h.lm _ _ e).2 k) fun x hx => ?_)
    obtain ⟨q, hq, rfl⟩ := map_some hx
    exact may_renS (h.lm _ _ hq).2 k
theorem age_dead (s : Sta) (k : Int) : (ageSt s k).dead = s.dead := by
  unfold ageSt
  cases getK s.ls ⟨4, k⟩ with
  | none => rfl
  | some o =>
    show (putS _ _ _).dead = _
    unfold putS
    split
    · rfl
    · rename_i h
      have h : ¬ s.dead = true := h
      simp at h
      rw [h]
theorem age_of_dead {s : Sta} (h : MaySt s) (k : Int) (hd : s.dead = true) : ageSt s k = s := by
  obtain ⟨h1, h2⟩ := h.dd hd
  obtain ⟨d, vs, ls⟩ := s
  simp only at h1 h2
  subst h1 h2
  rfl
theorem getV_age {s : Sta} (h : MaySt s) (k : Int) (n : ByteArray) : getK (ageSt s k).vs n = (getK s.vs n).map (rename · k) := by
  unfold ageSt
  cases getK s.ls ⟨4, k⟩ with
  | none => exact get_agedV _ _ _
  | some o =>
    show getK (putS _ _ _).vs n = _
    unfold putS
    split
    · exact get_agedV _ _ _
    · exact get_agedV _ _ _
/-- what the older objects are then -/
def oldO (s : Sta) (k : Int) : Option Shp := cmbL ((getK s.ls ⟨4, k⟩).map (renS · k)) ((getK s.ls ⟨5, k⟩).map (renS · k))
theorem getL_age {s : Sta} (h : MaySt s) (k : Int) (y : Atm) : getK (ageSt s k).ls y = if y = ⟨4, k⟩ then none else if y = ⟨5, k⟩ then oldO s k else (getK s.ls y).map (renS · k) := by
  cases hd : s.dead with
  | true =>
    rw [age_of_dead h k hd]
    unfold oldO
    rw [(h.dd hd).2]
    simp [getK, cmbL, both2]
  | false =>
    unfold ageSt oldO
    cases e : getK s.ls ⟨4, k⟩ with
    | none =>
      show getK (dropL s.ls k) y = _
      rw [get_dropL]
      by_cases h1 : y = ⟨4, k⟩
      · rw [if_pos h1, if_pos h1]
      · rw [if_neg h1, if_neg h1]
        by_cases h2 : y = ⟨5, k⟩
        · rw [if_pos h2, h2]
          cases getK s.ls ⟨5, k⟩ <;> rfl
        · rw [if_neg h2]
    | some o =>
      rw [get_put (may_renamedSt h k) hd]
      show (if (⟨5, k⟩ : Atm) = y then _ else getK (dropL s.ls k) y) = _
      rw [get_dropL]
      by_cases h1 : y = ⟨4, k⟩
      · rw [if_pos h1, if_pos h1, if_neg (by rw [h1]; exact ne45 k)]
      · rw [if_neg h1, if_neg h1]
        by_cases h2 : y = ⟨5, k⟩
        · rw [if_pos h2.symm, if_pos h2]
          cases getK s.ls ⟨5, k⟩ <;> rfl
        · rw [if_neg h2, if_neg (fun e => h2 e.symm)]
theorem ren_comm (a b : Int) (x : Atm) : ren a (ren b x) = ren b (ren a x) := by
  obtain ⟨k, n⟩ := x
  by_cases h0 : k = 4
  · by_cases h1 : n = a
    · by_cases h2 : n = b
      · simp [ren, h0, h1, ← h2]
      · subst h1; simp [ren, h0, h2]
    · by_cases h2 : n = b
      · subst h2; simp [ren, h0, h1]
      · simp [ren, h0, h1, h2]
  · simp [ren, h0]
theorem mem_rename2 (l : List Atm) (a b : Int) (z : Atm) : z ∈ rename (rename l a) b ↔ (∃ x ∈ l, ren b (ren a x) = z) ∧ okA z = true := by
  rw [mem_rename]
  constructor
  · rintro ⟨⟨x, hx, rfl⟩, h2⟩
    obtain ⟨⟨y, hy, rfl⟩, _⟩ := (mem_rename _ _ _).1 hx
    exact ⟨⟨y, hy, rfl⟩, h2⟩
  · rintro ⟨⟨x, hx, rfl⟩, h2⟩
    rw [ok_ren] at h2
    exact ⟨⟨_, (mem_rename _ _ _).2 ⟨⟨x, hx, rfl⟩, h2⟩, rfl⟩, by rw [ok_ren]; exact h2⟩
theorem rename_comm (l : List Atm) (a b : Int) : rename (rename l a) b = rename (rename l b) a :=
  rising_ext (norm_rising _) (norm_rising _) fun z => by
    rw [mem_rename2, mem_rename2]
    simp only [ren_comm a b]
theorem renS_comm (p : Shp) (a b : Int) : renS (renS p a) b = renS (renS p b) a := by
  unfold renS
  simp only [List.map_map]
  rw [rename_comm p.pr a b]
  congr 1
  refine List.map_congr_left fun f _ => ?_
  simp only [Function.comp, renF]
  rw [rename_comm f.vs a b]
theorem cmbL_ren (p q : Option Shp) (k : Int) : (cmbL p q).map (renS · k) = cmbL (p.map (renS · k)) (q.map (renS · k)) := by
  cases p <;> cases q <;> simp [cmbL, both2, locJ, ren_join]
theorem age_again {s : Sta} (h : MaySt s) {k : Int} (hk : 0 ≤ k) : ageSt (ageSt s k) k = ageSt s k := by
  have h1 := may_age h hk
  refine sta_ext (may_age h1 hk) h1 (by rw [age_dead]) (fun n => ?_) fun y => ?_
  · rw [getV_age h1, getV_age h]
    cases getK s.vs n with
    | none => rfl
    | some v => simp [rename_again]
  · rw [getL_age h1, getL_age h]
    by_cases h4 : y = ⟨4, k⟩
    · rw [if_pos h4, if_pos h4]
    · rw [if_neg h4, if_neg h4]
      by_cases h5 : y = ⟨5, k⟩
      · rw [if_pos h5, if_pos h5]
        unfold oldO
        rw [getL_age h, getL_age h, if_pos rfl, if_neg (ne45 k), if_pos rfl]
        unfold oldO
        simp only [Option.map_none, cmbL_ren, Option.map_map]
        have e : ((fun x => renS x k) ∘ fun x => renS x k) = fun x => renS x k := funext fun x => ren_again x k
        rw [e]
        cases cmbL (Option.map (fun x => renS x k) (getK s.ls ⟨4, k⟩)) (Option.map (fun x => renS x k) (getK s.ls ⟨5, k⟩)) <;> rfl
      · rw [if_neg h5, if_neg h5]
        cases getK s.ls y with
        | none => rfl
        | some v => simp [ren_again]
theorem age_turn {s : Sta} (h : MaySt s) {a b : Int} (ha : 0 ≤ a) (hb : 0 ≤ b) : ageSt (ageSt s a) b = ageSt (ageSt s b) a := by
  by_cases hab : a = b
  · rw [hab]
  have h1 := may_age h ha
  have h2 := may_age h hb
  have hk : ∀ (i j c d : Int), (⟨i, c⟩ : Atm) = ⟨j, d⟩ ↔ i = j ∧ c = d := fun i j c d => by simp
  refine sta_ext (may_age h1 hb) (may_age h2 ha) (by rw [age_dead, age_dead, age_dead, age_dead]) (fun n => ?_) fun y => ?_
  · rw [getV_age h1, getV_age h2, getV_age h, getV_age h]
    cases getK s.vs n with
    | none => rfl
    | some v => simp [rename_comm v a b]
  · have hba : ¬ b = a := fun e => hab e.symm
    have e : ((fun x => renS x b) ∘ fun x => renS x a) = ((fun x => renS x a) ∘ fun x => renS x b) := funext fun x => renS_comm x a b
    rw [getL_age h1, getL_age h2]
    unfold oldO
    simp only [getL_age h]
    unfold oldO
    by_cases y1 : y = ⟨4, a⟩
    · subst y1; simp [hk, hab, hba]
    · by_cases y2 : y = ⟨4, b⟩
      · subst y2; simp [hk, hab, hba]
      · by_cases y3 : y = ⟨5, a⟩
        · subst y3; simp [hk, hab, hba, cmbL_ren, e]
        · by_cases y4 : y = ⟨5, b⟩
          · subst y4; simp [hk, hab, hba, cmbL_ren, e]
          · simp [y1, y2, y3, y4, e]
/-- does a state speak of an atom? -/
def speaksSt (s : Sta) (x : Atm) : Bool := s.vs.any (fun z => has z.2 x) || s.ls.any (fun z => decide (z.1 = x) || has z.2.pr x || z.2.fs.any fun f => has f.vs x)
/-- a shape does not speak of it -/
def mute (p : Shp) (x : Atm) : Bool := !has p.pr x && p.fs.all fun f => !has f.vs x
theorem mute_ren (p : Shp) (k : Int) : mute (renS p k) ⟨4, k⟩ = true := by
  simp [mute, renS, renF, rename_has]
theorem ren_mute {p : Shp} {k : Int} (hm : mayS p = true) (h : mute p ⟨4, k⟩ = true) : renS p k = p := by
  obtain ⟨_, h2, h3⟩ := (mayS_iff p).1 hm
  simp only [mute, Bool.and_eq_true, Bool.not_eq_true', List.all_eq_true] at h
  unfold renS
  rw [rename_none k h3 h.1]
  have : p.fs.map (renF k) = p.fs := by
    refine (List.map_congr_left fun f hf => ?_).trans (List.map_id _)
    show renF k f = f
    unfold renF
    rw [rename_none k (h2 f hf) (h.2 f hf)]
  rw [this]
theorem speaks_iff {s : Sta} (h : MaySt s) (x : Atm) : speaksSt s x = false ↔ (∀ n v, getK s.vs n = some v → has v x = false) ∧ getK s.ls x = none ∧ ∀ y p, getK s.ls y = some p → mute p x = true := by
  unfold speaksSt
  simp only [Bool.or_eq_false_iff, List.any_eq_false, Bool.or_eq_true, decide_eq_true_eq, List.any_eq_true, not_or, Bool.not_eq_true, not_exists, not_and]
  constructor
  · rintro ⟨h1, h2⟩
    refine ⟨fun n v e => h1 _ (getK_mem e), getK_none fun z hz => (h2 z hz).1.1, fun y p e => ?_⟩
    obtain ⟨⟨_, a2⟩, a3⟩ := h2 _ (getK_mem e)
    simp only [mute, Bool.and_eq_true, Bool.not_eq_true', List.all_eq_true]
    exact ⟨a2, fun f hf => a3 f hf⟩
  · rintro ⟨h1, h2, h3⟩
    refine ⟨fun z hz => h1 z.1 z.2 (getK_of_mem keyN h.vr hz), fun z hz => ?_⟩
    have e := getK_of_mem keyA h.lr (k := z.1) (v := z.2) hz
    have m := h3 _ _ e
    simp only [mute, Bool.and_eq_true, Bool.not_eq_true', List.all_eq_true] at m
    exact ⟨⟨fun e2 => by (rw [e2, h2] at e; cases e), m.1⟩, fun f hf => m.2 f hf⟩
theorem mute_oldO {s : Sta} {k : Int} {p : Shp} (h : oldO s k = some p) : mute p ⟨4, k⟩ = true := by
  unfold oldO at h
  rw [← cmbL_ren] at h
  obtain ⟨q, _, rfl⟩ := map_some h
  exact mute_ren q k
theorem age_mute {s : Sta} (h : MaySt s) {k : Int} {y : Atm} {p : Shp} (e : getK (ageSt s k).ls y = some p) : mute p ⟨4, k⟩ = true := by
  rw [getL_age h] at e
  split at e
  · cases e
  · split at e
    · exact mute_oldO e
    · obtain ⟨q, _, rfl⟩ := map_some e
      exact mute_ren q k
theorem age_speaks {s : Sta} (h : MaySt s) {k : Int} (hk : 0 ≤ k) : speaksSt (ageSt s k) ⟨4, k⟩ = false := by
  rw [speaks_iff (may_age h hk)]
  refine ⟨fun n v e => ?_, by rw [getL_age h, if_pos rfl], fun y p e => age_mute h e⟩
  rw [getV_age h] at e
  obtain ⟨w, _, rfl⟩ := map_some e
  exact rename_has _ _
theorem age_none {s : Sta} (h : MaySt s) {k : Int} (hk : 0 ≤ k) (hs : speaksSt s ⟨4, k⟩ = false) : ageSt s k = s := by
  obtain ⟨h1, h2, h3⟩ := (speaks_iff h _).1 hs
  refine sta_ext (may_age h hk) h (age_dead s k) (fun n => ?_) fun y => ?_
  · rw [getV_age h]
    cases e : getK s.vs n with
    | none => rfl
    | some v => simp [rename_none k (h.vm n v e) (h1 n v e)]
  · rw [getL_age h]
    by_cases h4 : y = ⟨4, k⟩
    · rw [if_pos h4, h4, h2]
    · rw [if_neg h4]
      have hr : (getK s.ls y).map (renS · k) = getK s.ls y := by
        cases e : getK s.ls y with
        | none => rfl
        | some p => simp [ren_mute (h.lm y p e).2 (h3 y p e)]
      by_cases h5 : y = ⟨5, k⟩
      · rw [if_pos h5]
        unfold oldO
        rw [h2, ← h5, hr]
        cases getK s.ls y <;> rfl
      · rw [if_neg h5, hr]
theorem age_vlen (s : Sta) (k : Int) : (ageSt s k).vs.length = s.vs.length := by
  unfold ageSt
  cases getK s.ls ⟨4, k⟩ with
  | none => simp [renamedSt, agedV]
  | some o =>
    show (putS _ _ _).vs.length = _
    unfold putS
    split <;> simp [renamedSt, agedV]
end M
end Go.Proofs.YtbaaeobdjiglgaaGreat

/-
  What lies within, and joins, when the newest object grows old; what a new one is told by: as mathematics. Nothing of the program's code is walked here. No conditions.
-/
set_option linter.unusedVariables false
set_option linter.unusedSimpArgs false
namespace Go.Proofs.YtbaaeobdjiglgaaGreat
namespace M
theorem rename_nul (k : Int) : rename nul k = nul := rename_none k may_nul (by simp [has, nul])
theorem getD_ren (p : Option (List Atm)) (k : Int) : (p.map (rename · k)).getD nul = rename (p.getD nul) k := by
  cases p with
  | none => exact (rename_nul k).symm
  | some v => rfl
theorem inV_ren {p q : Option (List Atm)} (k : Int) (h : inV p q = true) : inV (p.map (rename · k)) (q.map (rename · k)) = true := by
  unfold inV at *
  rw [getD_ren, getD_ren]
  exact rename_within k h
theorem mayO_ren {p : Option Shp} (h : MayO p) (k : Int) : MayO (p.map (renS · k)) := fun x hx => by
  obtain ⟨q, hq, rfl⟩ := map_some hx
  exact may_renS (h q hq) k
theorem inL_ren {p q : Option Shp} (hp : MayO p) (hq : MayO q) (k : Int) (h : inL p q = true) : inL (p.map (renS · k)) (q.map (renS · k)) = true := by
  cases p with
  | none => cases q <;> rfl
  | some x =>
    cases q with
    | none => cases h
    | some y => exact ren_within (hp x rfl) (hq y rfl) k h
theorem mayO_cmb {p q : Option Shp} (hp : MayO p) (hq : MayO q) : MayO (cmbL p q) := by
  intro x hx
  cases p with
  | none =>
    cases q with
    | none => cases hx
    | some y => simp [cmbL, both2, locJ] at hx; subst hx; exact hq y rfl
  | some z =>
    cases q with
    | none => simp [cmbL, both2, locJ] at hx; subst hx; exact hp z rfl
    | some y => simp [cmbL, both2, locJ] at hx; subst hx; exact may_joinS _ _
theorem inL_cmb {p q r t : Option Shp} (hp : MayO p) (hq : MayO q) (hr : MayO r) (ht : MayO t) (h1 : inL p r = true) (h2 : inL q t = true) : inL (cmbL p q) (cmbL r t) = true :=
  inL_least hp hq (mayO_cmb hr ht) (inL_trans hp hr (mayO_cmb hr ht) h1 (inL_left t hr)) (inL_trans hq ht (mayO_cmb hr ht) h2 (by rw [cmbL_comm]; exact inL_left r ht))
theorem age_within {s t : Sta} (hs : MaySt s) (ht : MaySt t) {k : Int} (hk : 0 ≤ k) (h : withinSt s t = true) : withinSt (ageSt s k) (ageSt t k) = true := by
  cases hd : s.dead with
  | true => exact withinSt_dead (by rw [age_dead]; exact hd)
  | false =>
    obtain ⟨h0, h1, h2⟩ := (withinSt_iff hs ht hd).1 h
    refine (withinSt_iff (may_age hs hk) (may_age ht hk) (by rw [age_dead]; exact hd)).2 ⟨by rw [age_dead]; exact h0, fun n => ?_, fun y => ?_⟩
    · rw [getV_age hs, getV_age ht]; exact inV_ren k (h1 n)
    · rw [getL_age hs, getL_age ht]
      by_cases h4 : y = ⟨4, k⟩
      · rw [if_pos h4, if_pos h4]; rfl
      · rw [if_neg h4, if_neg h4]
        by_cases h5 : y = ⟨5, k⟩
        · rw [if_pos h5, if_pos h5]
          exact inL_cmb (mayO_ren (mayO hs _) k) (mayO_ren (mayO hs _) k) (mayO_ren (mayO ht _) k) (mayO_ren (mayO ht _) k) (inL_ren (mayO hs _) (mayO ht _) k (h2 _)) (inL_ren (mayO hs _) (mayO ht _) k (h2 _))
        · rw [if_neg h5, if_neg h5]
          exact inL_ren (mayO hs _) (mayO ht _) k (h2 y)
theorem may_alloc {s : Sta} (hs : MaySt s) (n : ByteArray) {k : Int} (hk : 0 ≤ k) {o : Shp} (ho : mayS o = true) : MaySt (allocSt s n k o) :=
  may_set (may_put (may_age hs hk) (place45 hk).1 (may_renS ho k)) n _
theorem put_dead (s : Sta) (x : Atm) (p : Shp) : (putS s x p).dead = s.dead := by
  unfold putS
  split
  · rfl
  · rename_i h; simp at h; rw [h]
theorem set_dead (s : Sta) (n : ByteArray) (v : List Atm) : (setS s n v).dead = s.dead := by
  unfold setS
  split
  · rfl
  · rename_i h; simp at h; rw [h]
theorem put_vs (s : Sta) (x : Atm) (p : Shp) : (putS s x p).vs = s.vs := by unfold putS; split <;> rfl
theorem set_ls (s : Sta) (n : ByteArray) (v : List Atm) : (setS s n v).ls = s.ls := by unfold setS; split <;> rfl
theorem alloc_dead (s : Sta) (n : ByteArray) (k : Int) (o : Shp) : (allocSt s n k o).dead = s.dead := by
  unfold allocSt
  rw [set_dead, put_dead, age_dead]
theorem norm_rec {k : Int} (hk : 0 ≤ k) : norm [⟨4, k⟩] = [⟨4, k⟩] := by
  have : mayL [⟨4, k⟩] = true := (may_iff _).2 ⟨by unfold Rising; simp, fun x hx => by rw [List.mem_singleton.1 hx]; simp [okA, hk]⟩
  unfold mayL at this
  exact (of_decide_eq_true this).symm
theorem getV_alloc {s : Sta} (hs : MaySt s) (hd : s.dead = false) (n : ByteArray) {k : Int} (hk : 0 ≤ k) {o : Shp} (ho : mayS o = true) (m : ByteArray) : getK (allocSt s n k o).vs m = if n = m then some [⟨4, k⟩] else (getK s.vs m).map (rename · k) := by
  unfold allocSt
  rw [get_set (may_put (may_age hs hk) (place45 hk).1 (may_renS ho k)) (by rw [put_dead, age_dead]; exact hd), norm_rec hk, put_vs, getV_age hs]
theorem getL_alloc {s : Sta} (hs : MaySt s) (hd : s.dead = false) (n : ByteArray) {k : Int} (hk : 0 ≤ k) {o : Shp} (y : Atm) : getK (allocSt s n k o).ls y = if (⟨4, k⟩ : Atm) = y then some (renS o k) else getK (ageSt s k).ls y := by
  unfold allocSt
  rw [set_ls, get_put (may_age hs hk) (by rw [age_dead]; exact hd)]
theorem alloc_of_dead {s : Sta} (h : MaySt s) (n : ByteArray) (k : Int) (o : Shp) (hd : s.dead = true) : allocSt s n k o = s := by
  unfold allocSt
  rw [age_of_dead h k hd]
  have : putS s ⟨4, k⟩ (renS o k) = s := by unfold putS; rw [if_pos hd]
  rw [this]
  unfold setS
  rw [if_pos hd]
theorem alloc_within {s t : Sta} (hs : MaySt s) (ht : MaySt t) (n : ByteArray) {k : Int} (hk : 0 ≤ k) {o : Shp} (ho : mayS o = true) (h : withinSt s t = true) : withinSt (allocSt s n k o) (allocSt t n k o) = true := by
  cases hd : s.dead with
  | true => exact withinSt_dead (by rw [alloc_dead]; exact hd)
  | false =>
    obtain ⟨h0, h1, h2⟩ := (withinSt_iff hs ht hd).1 h
    have ha := age_within hs ht hk h
    obtain ⟨_, _, a2⟩ := (withinSt_iff (may_age hs hk) (may_age ht hk) (by rw [age_dead]; exact hd)).1 ha
    refine (withinSt_iff (may_alloc hs n hk ho) (may_alloc ht n hk ho) (by rw [alloc_dead]; exact hd)).2 ⟨by rw [alloc_dead]; exact h0, fun m => ?_, fun y => ?_⟩
    · rw [getV_alloc hs hd n hk ho, getV_alloc ht h0 n hk ho]
      by_cases e : n = m
      · rw [if_pos e, if_pos e]; exact inV_refl _
      · rw [if_neg e, if_neg e]; exact inV_ren k (h1 m)
    · rw [getL_alloc hs hd n hk, getL_alloc ht h0 n hk]
      by_cases e : (⟨4, k⟩ : Atm) = y
      · rw [if_pos e, if_pos e]
        exact inL_refl (fun x hx => by cases hx; exact may_renS ho k)
      · rw [if_neg e, if_neg e]; exact a2 y
theorem cmbV_ren (p q : Option (List Atm)) (k : Int) : (cmbV p q).map (rename · k) = cmbV (p.map (rename · k)) (q.map (rename · k)) := by
  have e : rename (varJ p q) k = varJ (p.map (rename · k)) (q.map (rename · k)) := by
    unfold varJ
    rw [getD_ren, getD_ren, rename_union]
  cases p with
  | none =>
    cases q with
    | none => rfl
    | some y => simpa [cmbV, both2] using e
  | some x =>
    cases q with
    | none => simpa [cmbV, both2] using e
    | some y => simpa [cmbV, both2] using e
theorem cmbL_four (a b c d : Option Shp) : cmbL (cmbL a b) (cmbL c d) = cmbL (cmbL a c) (cmbL b d) := by
  rw [cmbL_assoc, cmbL_assoc, ← cmbL_assoc b c d, cmbL_comm b c, cmbL_assoc c b d]
theorem age_join {s t : Sta} (hs : MaySt s) (ht : MaySt t) {k : Int} (hk : 0 ≤ k) : ageSt (joinSt s t) k = joinSt (ageSt s k) (ageSt t k) := by
  cases h1 : s.dead with
  | true =>
    have e1 : joinSt s t = t := by unfold joinSt; rw [if_pos h1]
    have e2 : joinSt (ageSt s k) (ageSt t k) = ageSt t k := by unfold joinSt; rw [if_pos (by rw [age_dead]; exact h1)]
    rw [e1, e2]
  | false =>
    cases h2 : t.dead with
    | true => rw [join_right_dead h1 h2, join_right_dead (by rw [age_dead]; exact h1) (by rw [age_dead]; exact h2)]
    | false =>
      have hj := may_join hs ht
      have a1 : (ageSt s k).dead = false := by rw [age_dead]; exact h1
      have a2 : (ageSt t k).dead = false := by rw [age_dead]; exact h2
      refine sta_ext (may_age hj hk) (may_join (may_age hs hk) (may_age ht hk)) (by rw [age_dead, join_dead, join_dead, age_dead, age_dead]) (fun n => ?_) fun y => ?_
      · rw [getV_age hj, getV_join hs ht h1 h2, getV_join (may_age hs hk) (may_age ht hk) a1 a2, getV_age hs, getV_age ht, cmbV_ren]
      · rw [getL_age hj, getL_join (may_age hs hk) (may_age ht hk) a1 a2, getL_age hs, getL_age ht]
        by_cases h4 : y = ⟨4, k⟩
        · rw [if_pos h4, if_pos h4, if_pos h4]; rfl
        · rw [if_neg h4, if_neg h4, if_neg h4]
          by_cases h5 : y = ⟨5, k⟩
          · rw [if_pos h5, if_pos h5, if_pos h5]
            unfold oldO
            rw [getL_join hs ht h1 h2, getL_join hs ht h1 h2, cmbL_ren, cmbL_ren, cmbL_four]
          · rw [if_neg h5, if_neg h5, if_neg h5, getL_join hs ht h1 h2, cmbL_ren]
/-- what is told of a new object -/
theorem alloc_facts {s : Sta} (hs : MaySt s) (hd : s.dead = false) (n : ByteArray) {k : Int} (hk : 0 ≤ k) {o : Shp} (ho : mayS o = true) :
    (∀ z ∈ (allocSt s n k o).vs, has z.2 ⟨4, k⟩ = decide (z.1 = n)) ∧ (∀ z ∈ (allocSt s n k o).ls, mute z.2 ⟨4, k⟩ = true) ∧ getK (allocSt s n k o).ls ⟨4, k⟩ = some (renS o k) ∧ varS (allocSt s n k o) n = [⟨4, k⟩] := by
  have hm := may_alloc hs n hk ho
  refine ⟨fun z hz => ?_, fun z hz => ?_, by rw [getL_alloc hs hd n hk, if_pos rfl], by unfold varS; rw [getV_alloc hs hd n hk ho, if_pos rfl]; rfl⟩
  · have e := getK_of_mem keyN hm.vr (k := z.1) (v := z.2) hz
    rw [getV_alloc hs hd n hk ho] at e
    by_cases h : n = z.1
    · rw [if_pos h] at e
      have e := Option.some.inj e
      rw [← e]
      simp [has, h]
    · rw [if_neg h] at e
      obtain ⟨w, _, e⟩ := map_some e
      rw [← e, rename_has]
      exact (decide_eq_false fun e => h (Eq.symm e)).symm
  · have e := getK_of_mem keyA hm.lr (k := z.1) (v := z.2) hz
    rw [getL_alloc hs hd n hk] at e
    by_cases h : (⟨4, k⟩ : Atm) = z.1
    · rw [if_pos h] at e
      have e := Option.some.inj e
      rw [← e]
      exact mute_ren o k
    · rw [if_neg h] at e
      exact age_mute hs e
end M
end Go.Proofs.YtbaaeobdjiglgaaGreat

/-
  What is fixed of stage 9, as mathematics: the texts of a state behind Alloc, and behind Age. Nothing of the program's code is walked here. No conditions.
-/
set_option linter.unusedVariables false
namespace Go.Proofs.YtbaaeobdjiglgaaGreat
namespace M
def fixS : Sta := ⟨false, [(⟨#[120]⟩, [⟨4, 0⟩])], [(⟨4, 0⟩, ⟨[⟨⟨#[112]⟩, true, [⟨2, 0⟩]⟩], [⟨0, 0⟩]⟩)]⟩
def fixO : Shp := ⟨[], [⟨4, 0⟩]⟩
theorem fixS_may : maySt fixS = true := by decide +kernel
theorem fixO_may : mayS fixO = true := by decide +kernel
theorem fix_alloc : textSt (allocSt fixS ⟨#[121]⟩ 0 fixO) = [120, 58, 32, 115, 117, 109, 48, 10, 121, 58, 32, 114, 101, 99, 48, 10, 114, 101, 99, 48, 58, 32, 112, 114, 111, 116, 111, 32, 40, 115, 117, 109, 48, 41, 10, 115, 117, 109, 48, 58, 32, 112, 33, 40, 110, 117, 109, 41, 32, 112, 114, 111, 116, 111, 32, 40, 110, 117, 108, 108, 41, 10] := by decide +kernel
theorem fix_age : textSt (ageSt fixS 0) = [120, 58, 32, 115, 117, 109, 48, 10, 115, 117, 109, 48, 58, 32, 112, 33, 40, 110, 117, 109, 41, 32, 112, 114, 111, 116, 111, 32, 40, 110, 117, 108, 108, 41, 10] := by decide +kernel
end M
end Go.Proofs.YtbaaeobdjiglgaaGreat

/-
  The text of a state, one variable, one object, one property at a time. Nothing of the program's code is walked here. No conditions.
-/
set_option linter.unusedVariables false
namespace Go.Proofs.YtbaaeobdjiglgaaGreat
namespace M
theorem flat_take {α : Type} (f : α → List UInt8) (l : List α) (i : Nat) (h : i < l.length) : (l.take (i + 1)).flatMap f = (l.take i).flatMap f ++ f l[i] := by
  rw [List.take_succ_eq_append_getElem h, List.flatMap_append]
  simp
theorem text_dead {s : Sta} (h : s.dead = true) : textSt s = [100, 101, 97, 100, 10] := by unfold textSt; rw [if_pos h]
theorem text_live {s : Sta} (h : s.dead = false) : textSt s = s.vs.flatMap varT ++ s.ls.flatMap (fun z => locT z ++ [10]) := by unfold textSt; rw [if_neg (by rw [h]; decide)]
/-- the text ahead of variable i -/
def txV (s : Sta) (i : Nat) : List UInt8 := (s.vs.take i).flatMap varT
/-- the text ahead of object i -/
def txL (s : Sta) (i : Nat) : List UInt8 := s.vs.flatMap varT ++ (s.ls.take i).flatMap (fun z => locT z ++ [10])
/-- the text ahead of property j of an object -/
def txF (t : List UInt8) (z : Atm × Shp) (j : Nat) : List UInt8 := t ++ (textB [z.1] ++ [58]) ++ (z.2.fs.take j).flatMap fldT
theorem txV_none (s : Sta) : txV s 0 = [] := by simp [txV]
theorem txV_next (s : Sta) (i : Nat) (h : i < s.vs.length) : txV s (i + 1) = txV s i ++ (s.vs[i].1.data.toList ++ [58, 32] ++ textB s.vs[i].2 ++ [10]) := flat_take _ _ _ h
theorem txV_all (s : Sta) : txV s s.vs.length = txL s 0 := by simp [txV, txL]
theorem txL_next (s : Sta) (i : Nat) (h : i < s.ls.length) : txL s (i + 1) = txF (txL s i) s.ls[i] s.ls[i].2.fs.length ++ ([32, 112, 114, 111, 116, 111, 32, 40] ++ textB s.ls[i].2.pr ++ [41] ++ [10]) := by
  unfold txL txF
  rw [flat_take _ _ _ h, List.take_length]
  simp [locT, List.append_assoc]
theorem txL_all {s : Sta} (h : s.dead = false) : txL s s.ls.length = textSt s := by
  rw [text_live h]; unfold txL; rw [List.take_length]
theorem txF_none (t : List UInt8) (z : Atm × Shp) : txF t z 0 = t ++ (textB [z.1] ++ [58]) := by simp [txF]
theorem txF_next (t : List UInt8) (z : Atm × Shp) (j : Nat) (h : j < z.2.fs.length) : txF t z (j + 1) = txF t z j ++ fldT z.2.fs[j] := by
  unfold txF
  rw [flat_take _ _ _ h]; simp only [List.append_assoc]
end M
end Go.Proofs.YtbaaeobdjiglgaaGreat
