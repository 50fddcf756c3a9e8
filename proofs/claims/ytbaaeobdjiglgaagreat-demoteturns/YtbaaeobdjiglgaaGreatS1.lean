/-
  Shapes as mathematics: names and their order, rising fields, what a property is, joins, within, what is written, renaming. Nothing of the program's code is walked here. No conditions.
-/
import Derived.Lib.Bytealg
import Derived.Test.YtbaaeobdjiglgaaGreatA1
set_option linter.unusedVariables false
namespace Go.Proofs.YtbaaeobdjiglgaaGreat
namespace M

/-! Names. -/
theorem bytes_ext {a b : ByteArray} (h : a.data.toList = b.data.toList) : a = b := by
  obtain ⟨⟨x⟩⟩ := a
  obtain ⟨⟨y⟩⟩ := b
  simp only at h
  rw [h]
theorem toList_inj {a b : ByteArray} : a.toList = b.toList ↔ a = b := by
  rw [ByteArray.toList_eq, ByteArray.toList_eq]; exact ⟨bytes_ext, fun h => by rw [h]⟩
def ltN (a b : ByteArray) : Bool := decide (a.toList < b.toList)
theorem ll_irrefl : ∀ l : List UInt8, ¬ l < l
  | [], h => by cases h
  | a :: l, h => by
    rcases List.cons_lt_cons_iff.1 h with h | ⟨_, h⟩
    · exact UInt8.lt_irrefl a h
    · exact ll_irrefl l h
theorem ll_trans : ∀ {a b c : List UInt8}, a < b → b < c → a < c
  | _, _, [], _, h => by cases h
  | _, [], _, h, _ => by cases h
  | [], _ :: _, _ :: _, _, _ => List.nil_lt_cons _ _
  | a :: x, b :: y, c :: z, h1, h2 => by
    rcases List.cons_lt_cons_iff.1 h1 with h3 | ⟨e3, h3⟩
    · rcases List.cons_lt_cons_iff.1 h2 with h4 | ⟨e4, h4⟩
      · exact List.cons_lt_cons_iff.2 (.inl (UInt8.lt_trans h3 h4))
      · exact List.cons_lt_cons_iff.2 (.inl (by rw [← e4]; exact h3))
    · rcases List.cons_lt_cons_iff.1 h2 with h4 | ⟨e4, h4⟩
      · exact List.cons_lt_cons_iff.2 (.inl (by rw [e3]; exact h4))
      · exact List.cons_lt_cons_iff.2 (.inr ⟨by rw [e3, e4], ll_trans h3 h4⟩)
theorem ll_tri : ∀ {a b : List UInt8}, ¬ a < b → ¬ b < a → a = b
  | [], [], _, _ => rfl
  | [], _ :: _, h, _ => absurd (List.nil_lt_cons _ _) h
  | _ :: _, [], _, h => absurd (List.nil_lt_cons _ _) h
  | a :: x, b :: y, h1, h2 => by
    rw [List.cons_lt_cons_iff] at h1 h2
    have e : a = b := by
      apply UInt8.toNat_inj.1
      have h3 : ¬ a < b := fun h => h1 (.inl h)
      have h4 : ¬ b < a := fun h => h2 (.inl h)
      rw [UInt8.lt_iff_toNat_lt] at h3 h4
      omega
    subst e
    rw [ll_tri (fun h => h1 (.inr ⟨rfl, h⟩)) (fun h => h2 (.inr ⟨rfl, h⟩))]
theorem ltN_irrefl (a : ByteArray) : ltN a a = false := decide_eq_false (ll_irrefl _)
theorem ltN_trans {a b c : ByteArray} (h1 : ltN a b = true) (h2 : ltN b c = true) : ltN a c = true :=
  decide_eq_true (ll_trans (of_decide_eq_true h1) (of_decide_eq_true h2))
theorem ltN_tri {a b : ByteArray} (h1 : ltN a b = false) (h2 : ltN b a = false) : a = b :=
  toList_inj.1 (ll_tri (of_decide_eq_false h1) (of_decide_eq_false h2))
theorem ltN_asymm {a b : ByteArray} (h : ltN a b = true) : ltN b a = false := by
  cases h2 : ltN b a with
  | false => rfl
  | true => have := ltN_trans h h2; rw [ltN_irrefl] at this; cases this
theorem ltN_ne {a b : ByteArray} (h : ltN a b = true) : a ≠ b := fun e => by subst e; rw [ltN_irrefl] at h; cases h
theorem ltN_nle {a b c : ByteArray} (h1 : ltN b a = false) (h2 : ltN c b = false) : ltN c a = false := by
  cases h : ltN c a with
  | false => rfl
  | true =>
    cases h3 : ltN a b with
    | true => have := ltN_trans h h3; rw [h2] at this; cases this
    | false => have e := ltN_tri h3 h1; subst e; rw [h2] at h; cases h

/-! Fields. -/
structure Fld where
  nm : ByteArray
  su : Bool
  vs : List Atm
  deriving DecidableEq, Inhabited
structure Shp where
  fs : List Fld
  pr : List Atm
  deriving DecidableEq

def RisF (l : List Fld) : Prop := l.Pairwise fun x y => ltN x.nm y.nm = true
def getF (l : List Fld) (n : ByteArray) : Option Fld := l.find? fun f => decide (f.nm = n)

theorem getF_nm {l : List Fld} {n : ByteArray} {f : Fld} (h : getF l n = some f) : f.nm = n := by
  have := List.find?_some h; simpa using this
theorem getF_mem {l : List Fld} {n : ByteArray} {f : Fld} (h : getF l n = some f) : f ∈ l := List.mem_of_find?_eq_some h
theorem getF_none {l : List Fld} {n : ByteArray} : getF l n = none ↔ ∀ f ∈ l, f.nm ≠ n := by
  unfold getF; simp
theorem getF_cons (x : Fld) (l : List Fld) (n : ByteArray) : getF (x :: l) n = if x.nm = n then some x else getF l n := by
  unfold getF; rw [List.find?_cons]; by_cases h : x.nm = n <;> simp [h]
theorem getF_of_mem : ∀ {l : List Fld} {f : Fld}, RisF l → f ∈ l → getF l f.nm = some f
  | x :: l, f, h, hf => by
    have a := List.pairwise_cons.1 h
    rw [getF_cons]
    rcases List.mem_cons.1 hf with e | e
    · subst e; rw [if_pos rfl]
    · rw [if_neg (ltN_ne (a.1 f e)), getF_of_mem a.2 e]
theorem risF_ext : ∀ {l m : List Fld}, RisF l → RisF m → (∀ n, getF l n = getF m n) → l = m
  | [], [], _, _, _ => rfl
  | [], y :: m, _, _, h => by have := h y.nm; rw [getF_cons, if_pos rfl] at this; cases this
  | x :: l, [], _, _, h => by have := h x.nm; rw [getF_cons, if_pos rfl] at this; cases this
  | x :: l, y :: m, h1, h2, h => by
    have a := List.pairwise_cons.1 h1
    have b := List.pairwise_cons.1 h2
    have hx := h x.nm
    have hy := h y.nm
    rw [getF_cons, if_pos rfl] at hx
    have ex : x ∈ y :: m := getF_mem hx.symm
    rw [getF_cons (x := y), if_pos rfl] at hy
    have ey : y ∈ x :: l := getF_mem hy
    have e : x = y := by
      rcases List.mem_cons.1 ex with e | e
      · exact e
      · rcases List.mem_cons.1 ey with f | f
        · exact f.symm
        · have := ltN_asymm (b.1 x e); rw [a.1 y f] at this; cases this
    subst e
    rw [risF_ext a.2 b.2 fun n => ?_]
    have := h n
    rw [getF_cons, getF_cons] at this
    by_cases hn : x.nm = n
    · subst hn
      rw [getF_none.2 fun f hf => (ltN_ne (a.1 f hf)).symm, getF_none.2 fun f hf => (ltN_ne (b.1 f hf)).symm]
    · rw [if_neg hn, if_neg hn] at this; exact this

/-- with f in its place -/
def withF (f : Fld) : List Fld → List Fld
  | [] => [f]
  | y :: r => if f.nm = y.nm then f :: r else if ltN f.nm y.nm then f :: y :: r else y :: withF f r
theorem mem_withF {f z : Fld} : ∀ {l : List Fld}, z ∈ withF f l → z = f ∨ z ∈ l
  | [], h => by simp [withF] at h; exact .inl h
  | y :: r, h => by
    unfold withF at h
    split at h
    · rcases List.mem_cons.1 h with h | h
      · exact .inl h
      · exact .inr (List.mem_cons_of_mem _ h)
    · split at h
      · exact List.mem_cons.1 h
      · rcases List.mem_cons.1 h with h | h
        · exact .inr (by rw [h]; exact List.mem_cons_self ..)
        · rcases mem_withF h with h | h
          · exact .inl h
          · exact .inr (List.mem_cons_of_mem _ h)
theorem withF_length (f : Fld) : ∀ l : List Fld, (withF f l).length ≤ l.length + 1
  | [] => Nat.le_refl _
  | y :: r => by
    unfold withF
    split
    · simp
    · split
      · simp
      · have := withF_length f r; simp; omega
theorem ris_withF {f : Fld} : ∀ {l : List Fld}, RisF l → RisF (withF f l)
  | [], _ => by unfold withF RisF; simp
  | y :: r, h => by
    have a := List.pairwise_cons.1 h
    unfold withF
    split
    · rename_i e
      exact List.pairwise_cons.2 ⟨fun z hz => by rw [e]; exact a.1 z hz, a.2⟩
    · rename_i ne
      split
      · rename_i hl
        refine List.pairwise_cons.2 ⟨fun z hz => ?_, h⟩
        rcases List.mem_cons.1 hz with e | e
        · rw [e]; exact hl
        · exact ltN_trans hl (a.1 z e)
      · rename_i hl
        refine List.pairwise_cons.2 ⟨fun z hz => ?_, ris_withF a.2⟩
        rcases mem_withF hz with e | e
        · subst e
          cases h2 : ltN y.nm z.nm with
          | true => rfl
          | false => exact absurd (ltN_tri (by simpa using hl) h2) ne
        · exact a.1 z e
theorem get_withF {f : Fld} (n : ByteArray) : ∀ {l : List Fld}, RisF l → getF (withF f l) n = if f.nm = n then some f else getF l n
  | [], _ => by unfold withF; rw [getF_cons]
  | y :: r, h => by
    have a := List.pairwise_cons.1 h
    unfold withF
    split
    · rename_i e
      rw [getF_cons, getF_cons]
      by_cases hn : f.nm = n
      · rw [if_pos hn, if_pos hn]
      · rw [if_neg hn, if_neg hn, if_neg (by rw [← e]; exact hn)]
    · rename_i ne
      split
      · rw [getF_cons]
      · rw [getF_cons, get_withF n a.2, getF_cons]
        by_cases hn : f.nm = n
        · rw [if_pos hn, if_neg (by rw [← hn]; exact fun e => ne e.symm), if_pos hn]
        · rw [if_neg hn, if_neg hn]

/-! The document's With, step by step. -/
def wloop (f : Fld) : Bool → List Fld → List Fld → List Fld
  | true, acc, [] => acc
  | false, acc, [] => acc ++ [f]
  | true, acc, y :: r => if y.nm = f.nm then wloop f true acc r else wloop f true (acc ++ [y]) r
  | false, acc, y :: r => if ltN y.nm f.nm then wloop f false (acc ++ [y]) r else if y.nm = f.nm then wloop f true (acc ++ [f]) r else wloop f true (acc ++ [f] ++ [y]) r
theorem wloop_true (f : Fld) : ∀ (l acc : List Fld), (∀ y ∈ l, y.nm ≠ f.nm) → wloop f true acc l = acc ++ l
  | [], acc, _ => by simp [wloop]
  | y :: r, acc, h => by
    unfold wloop
    rw [if_neg (h y (List.mem_cons_self ..)), wloop_true f r _ fun z hz => h z (List.mem_cons_of_mem _ hz)]
    simp
theorem wloop_false (f : Fld) : ∀ (l acc : List Fld), RisF l → wloop f false acc l = acc ++ withF f l
  | [], acc, _ => rfl
  | y :: r, acc, h => by
    have a := List.pairwise_cons.1 h
    unfold wloop withF
    split
    · rename_i hl
      rw [if_neg (fun e => ltN_ne hl e.symm), if_neg (by rw [ltN_asymm hl]; simp), wloop_false f r _ a.2]
      simp
    · rename_i hl
      split
      · rename_i e
        rw [if_pos e.symm, wloop_true f r _ fun z hz he => ltN_ne (a.1 z hz) (by rw [he, e])]
        simp
      · rename_i ne
        have hl2 : ltN f.nm y.nm = true := by
          cases h2 : ltN f.nm y.nm with
          | true => rfl
          | false => exact absurd (ltN_tri (by simpa using hl) h2) ne
        rw [if_neg (fun e => ne e.symm), if_pos hl2, wloop_true f r _ fun z hz he => by
          have := ltN_trans hl2 (a.1 z hz); rw [he, ltN_irrefl] at this; cases this]
        simp

/-! Shapes. -/
def risB : List Fld → Bool
  | [] => true
  | x :: l => l.all (fun y => ltN x.nm y.nm) && risB l
theorem risB_iff : ∀ l : List Fld, risB l = true ↔ RisF l
  | [] => by simp [risB, RisF]
  | x :: l => by
    unfold risB RisF
    rw [Bool.and_eq_true, risB_iff l, List.pairwise_cons, List.all_eq_true]
    exact Iff.rfl
def mayS (s : Shp) : Bool := risB s.fs && s.fs.all (fun f => mayL f.vs) && mayL s.pr
theorem mayS_iff (s : Shp) : mayS s = true ↔ RisF s.fs ∧ (∀ f ∈ s.fs, mayL f.vs = true) ∧ mayL s.pr = true := by
  unfold mayS
  rw [Bool.and_eq_true, Bool.and_eq_true, risB_iff, List.all_eq_true, and_assoc]

def suO : Option Fld → Bool
  | none => false
  | some f => f.su
def vsO : Option Fld → List Atm
  | none => []
  | some f => f.vs
/-- the property of the name in the join of two -/
def jf (a b : List Fld) (n : ByteArray) : Fld := ⟨n, suO (getF a n) && suO (getF b n), norm (vsO (getF a n) ++ vsO (getF b n))⟩
def joinF (a b : List Fld) : List Fld := (a ++ b).foldl (fun acc x => withF (jf a b x.nm) acc) []
def joinS (a b : Shp) : Shp := ⟨joinF a.fs b.fs, norm (a.pr ++ b.pr)⟩
def zeroS : Shp := ⟨[], []⟩

theorem jfold (a b : List Fld) : ∀ (l acc : List Fld), RisF acc → RisF (l.foldl (fun acc x => withF (jf a b x.nm) acc) acc) ∧
    (∀ n, getF (l.foldl (fun acc x => withF (jf a b x.nm) acc) acc) n = if (∃ x ∈ l, x.nm = n) then some (jf a b n) else getF acc n) ∧
    (l.foldl (fun acc x => withF (jf a b x.nm) acc) acc).length ≤ acc.length + l.length
  | [], acc, h => ⟨h, fun n => by simp, by simp⟩
  | x :: l, acc, h => by
    obtain ⟨h1, h2, h3⟩ := jfold a b l (withF (jf a b x.nm) acc) (ris_withF h)
    refine ⟨h1, fun n => ?_, ?_⟩
    · rw [List.foldl_cons, h2, get_withF n h]
      by_cases hl : ∃ y ∈ l, y.nm = n
      · rw [if_pos hl, if_pos]
        obtain ⟨y, hy, e⟩ := hl
        exact ⟨y, List.mem_cons_of_mem _ hy, e⟩
      · rw [if_neg hl]
        by_cases hx : x.nm = n
        · rw [if_pos (show (jf a b x.nm).nm = n from hx), if_pos ⟨x, List.mem_cons_self .., hx⟩, hx]
        · rw [if_neg (show ¬ (jf a b x.nm).nm = n from hx), if_neg]
          rintro ⟨y, hy, e⟩
          rcases List.mem_cons.1 hy with h | h
          · exact hx (by rw [← h]; exact e)
          · exact hl ⟨y, h, e⟩
    · rw [List.foldl_cons]
      have := withF_length (jf a b x.nm) acc
      simp only [List.length_cons]
      omega
theorem ris_joinF (a b : List Fld) : RisF (joinF a b) := (jfold a b (a ++ b) [] List.Pairwise.nil).1
theorem joinF_length (a b : List Fld) : (joinF a b).length ≤ a.length + b.length := by
  have := (jfold a b (a ++ b) [] List.Pairwise.nil).2.2
  rw [List.length_append, List.length_nil, Nat.zero_add] at this
  exact this
/-- what a property of a join is -/
def cmb (n : ByteArray) : Option Fld → Option Fld → Option Fld
  | none, none => none
  | o, p => some ⟨n, suO o && suO p, norm (vsO o ++ vsO p)⟩
theorem get_joinF (a b : List Fld) (n : ByteArray) : getF (joinF a b) n = cmb n (getF a n) (getF b n) := by
  unfold joinF
  rw [(jfold a b (a ++ b) [] List.Pairwise.nil).2.1]
  by_cases h : ∃ x ∈ a ++ b, x.nm = n
  · rw [if_pos h]
    unfold jf
    cases ha : getF a n with
    | some f => rfl
    | none =>
      cases hb : getF b n with
      | some f => rfl
      | none =>
        obtain ⟨x, hx, e⟩ := h
        rcases List.mem_append.1 hx with hx | hx
        · exact absurd e (getF_none.1 ha x hx)
        · exact absurd e (getF_none.1 hb x hx)
  · rw [if_neg h]
    have ha : getF a n = none := getF_none.2 fun f hf e => h ⟨f, List.mem_append.2 (.inl hf), e⟩
    have hb : getF b n = none := getF_none.2 fun f hf e => h ⟨f, List.mem_append.2 (.inr hf), e⟩
    rw [ha, hb]; rfl
theorem cmb_may {n : ByteArray} {o p : Option Fld} {f : Fld} (h : cmb n o p = some f) : mayL f.vs = true ∧ f.nm = n := by
  cases o with
  | some x => simp only [cmb, Option.some.injEq] at h; subst h; exact ⟨may_norm _, rfl⟩
  | none =>
    cases p with
    | some x => simp only [cmb, Option.some.injEq] at h; subst h; exact ⟨may_norm _, rfl⟩
    | none => cases h
theorem may_joinF (a b : List Fld) : ∀ f ∈ joinF a b, mayL f.vs = true := fun f hf => by
  have := getF_of_mem (ris_joinF a b) hf
  rw [get_joinF] at this
  exact (cmb_may this).1
theorem may_joinS (a b : Shp) : mayS (joinS a b) = true := (mayS_iff _).2 ⟨ris_joinF _ _, may_joinF _ _, may_norm _⟩

/-! What the program's join does: the one's, then those of the other that are not there; sorted. -/
def pa (b : List Fld) (f : Fld) : Fld := ⟨f.nm, f.su && suO (getF b f.nm), norm (f.vs ++ vsO (getF b f.nm))⟩
def pb (g : Fld) : Fld := ⟨g.nm, false, g.vs⟩
def both (a b : List Fld) : List Fld := a.map (pa b) ++ (b.filter fun g => (getF a g.nm).isNone).map pb
theorem norm_may {l : List Atm} (h : mayL l = true) : norm l = l := (of_decide_eq_true h).symm
theorem mem_both {a b : List Fld} (ha : RisF a) (hb : RisF b) (hv : ∀ f ∈ b, mayL f.vs = true) (f : Fld) : f ∈ both a b ↔ f ∈ joinF a b := by
  have key : f ∈ joinF a b ↔ cmb f.nm (getF a f.nm) (getF b f.nm) = some f := by
    rw [← get_joinF]
    exact ⟨getF_of_mem (ris_joinF a b), getF_mem⟩
  rw [key]
  unfold both
  rw [List.mem_append, List.mem_map, List.mem_map]
  constructor
  · rintro (⟨x, hx, rfl⟩ | ⟨g, hg, rfl⟩)
    · show cmb x.nm (getF a x.nm) (getF b x.nm) = _
      rw [getF_of_mem ha hx]; rfl
    · obtain ⟨hg, hn⟩ := List.mem_filter.1 hg
      show cmb g.nm (getF a g.nm) (getF b g.nm) = _
      rw [getF_of_mem hb hg, Option.isNone_iff_eq_none.1 hn]
      show some _ = _
      unfold pb
      simp only [suO, vsO, Bool.false_and, List.nil_append]
      rw [norm_may (hv g hg)]
  · intro h
    cases hga : getF a f.nm with
    | some x =>
      left
      refine ⟨x, getF_mem hga, ?_⟩
      have hn := getF_nm hga
      rw [hga] at h
      simp only [cmb, suO, vsO, Option.some.injEq] at h
      rw [← h]
      unfold pa
      rw [hn]; rfl
    | none =>
      right
      rw [hga] at h
      cases hgb : getF b f.nm with
      | none => rw [hgb] at h; cases h
      | some g =>
        rw [hgb] at h
        have hn := getF_nm hgb
        refine ⟨g, List.mem_filter.2 ⟨getF_mem hgb, by rw [hn, hga]; rfl⟩, ?_⟩
        simp only [cmb, suO, vsO, Option.some.injEq, Bool.false_and, List.nil_append] at h
        rw [← h]
        unfold pb
        rw [hn, norm_may (hv g (getF_mem hgb))]
theorem both_apart {a b : List Fld} (ha : RisF a) (hb : RisF b) : (both a b).Pairwise fun x y => x.nm ≠ y.nm := by
  unfold both
  rw [List.pairwise_append]
  refine ⟨?_, ?_, ?_⟩
  · rw [List.pairwise_map]
    exact List.Pairwise.imp (fun {x y} h => ltN_ne h) ha
  · rw [List.pairwise_map]
    exact List.Pairwise.imp (fun {x y} h => ltN_ne h) (List.Pairwise.filter _ hb)
  · intro x hx y hy
    obtain ⟨f, hf, rfl⟩ := List.mem_map.1 hx
    obtain ⟨g, hg, rfl⟩ := List.mem_map.1 hy
    obtain ⟨_, hn⟩ := List.mem_filter.1 hg
    have := getF_none.1 (Option.isNone_iff_eq_none.1 hn) f hf
    exact this
theorem both_length (a b : List Fld) : (both a b).length ≤ a.length + b.length := by
  unfold both
  have := List.length_filter_le (fun g => (getF a g.nm).isNone) b
  simp
  omega
/-- not falling -/
def SteadyF (l : List Fld) : Prop := l.Pairwise fun x y => ltN y.nm x.nm = false
theorem ris_of_steady {l : List Fld} (h : SteadyF l) (hn : l.Pairwise fun x y => x.nm ≠ y.nm) : RisF l := by
  have := List.Pairwise.and h hn
  refine List.Pairwise.imp (fun {x y} hxy => ?_) this
  cases h2 : ltN x.nm y.nm with
  | true => rfl
  | false => exact absurd (ltN_tri h2 hxy.1) hxy.2
theorem ris_mem_ext {l m : List Fld} (hl : RisF l) (hm : RisF m) (h : ∀ f, f ∈ l ↔ f ∈ m) : l = m :=
  risF_ext hl hm fun n => by
    cases h1 : getF l n with
    | some f =>
      have := getF_of_mem hm ((h f).1 (getF_mem h1))
      rw [getF_nm h1] at this
      exact this.symm
    | none =>
      cases h2 : getF m n with
      | none => rfl
      | some f => exact absurd (getF_nm h2) (getF_none.1 h1 f ((h f).2 (getF_mem h2)))
theorem sorted_join {a b d : List Fld} (ha : RisF a) (hb : RisF b) (hv : ∀ f ∈ b, mayL f.vs = true) (hp : d.Perm (both a b)) (hs : SteadyF d) : d = joinF a b := by
  have hn : d.Pairwise fun x y => x.nm ≠ y.nm := (hp.pairwise_iff (fun {x y} h => Ne.symm h)).2 (both_apart ha hb)
  exact ris_mem_ext (ris_of_steady hs hn) (ris_joinF a b) fun f => by rw [hp.mem_iff, mem_both ha hb hv]

/-! Within. -/
def inO : Option Fld → Option Fld → Bool
  | none, none => true
  | none, some g => !g.su
  | some _, none => false
  | some f, some g => within f.vs g.vs && (!g.su || f.su)
def withinF (a b : List Fld) : Bool := a.all (fun f => inO (some f) (getF b f.nm)) && b.all (fun g => !g.su || (getF a g.nm).isSome)
def withinS (a b : Shp) : Bool := within a.pr b.pr && withinF a.fs b.fs
theorem withinF_iff {a b : List Fld} (ha : RisF a) (hb : RisF b) : withinF a b = true ↔ ∀ n, inO (getF a n) (getF b n) = true := by
  unfold withinF
  rw [Bool.and_eq_true, List.all_eq_true, List.all_eq_true]
  constructor
  · rintro ⟨h1, h2⟩ n
    cases hga : getF a n with
    | some f =>
      have := h1 f (getF_mem hga)
      rw [getF_nm hga] at this
      exact this
    | none =>
      cases hgb : getF b n with
      | none => rfl
      | some g =>
        have := h2 g (getF_mem hgb)
        rw [getF_nm hgb, hga] at this
        simp at this
        simp [inO, this]
  · intro h
    refine ⟨fun f hf => ?_, fun g hg => ?_⟩
    · have := h f.nm
      rw [getF_of_mem ha hf] at this
      exact this
    · have := h g.nm
      rw [getF_of_mem hb hg] at this
      cases hga : getF a g.nm with
      | some f => simp
      | none => rw [hga] at this; simpa [inO] using this
theorem withinS_iff {a b : Shp} (ha : RisF a.fs) (hb : RisF b.fs) : withinS a b = true ↔ within a.pr b.pr = true ∧ ∀ n, inO (getF a.fs n) (getF b.fs n) = true := by
  unfold withinS
  rw [Bool.and_eq_true, withinF_iff ha hb]
theorem shp_ext {a b : Shp} (h1 : a.fs = b.fs) (h2 : a.pr = b.pr) : a = b := by
  cases a; cases b; simp at h1 h2; rw [h1, h2]
def sameS (a b : Shp) : Bool := decide (a = b)
/-- a property whose name and atoms are as they may be -/
def OkO (n : ByteArray) (o : Option Fld) : Prop := ∀ f, o = some f → f.nm = n ∧ mayL f.vs = true
theorem okO_get {s : Shp} (h : mayS s = true) (n : ByteArray) : OkO n (getF s.fs n) := fun f hf => ⟨getF_nm hf, ((mayS_iff s).1 h).2.1 f (getF_mem hf)⟩
theorem within_refl (a : List Atm) : within a a = true := (within_iff _ _).2 fun _ h => h
theorem inO_refl (o : Option Fld) : inO o o = true := by
  cases o with
  | none => rfl
  | some f => simp [inO, within_refl]
theorem cmb_left {n : ByteArray} {o p : Option Fld} (ho : OkO n o) : inO o (cmb n o p) = true := by
  cases o with
  | none => cases p <;> simp [cmb, inO, suO]
  | some f =>
    have := (ho f rfl).2
    simp only [cmb, inO, suO, vsO, within_left _ this, Bool.true_and]
    cases f.su <;> simp
theorem cmb_comm (n : ByteArray) (o p : Option Fld) : cmb n o p = cmb n p o := by
  cases o <;> cases p <;> simp only [cmb, suO, vsO, Bool.false_and, Bool.and_false]
  · rw [union_comm]
  · rw [union_comm]
  · rw [union_comm, Bool.and_comm]
theorem cmb_right {n : ByteArray} {o p : Option Fld} (hp : OkO n p) : inO p (cmb n o p) = true := by rw [cmb_comm]; exact cmb_left hp
theorem cmb_least {n : ByteArray} {o p q : Option Fld} (h1 : inO o q = true) (h2 : inO p q = true) : inO (cmb n o p) q = true := by
  cases o with
  | none =>
    cases p with
    | none => exact h1
    | some g =>
      cases q with
      | none => cases h2
      | some x =>
        simp only [inO, Bool.and_eq_true] at h1 h2
        simp only [cmb, inO, suO, vsO, Bool.and_eq_true]
        refine ⟨union_least (by simp [within]) h2.1, ?_⟩
        simp at h1; simp [h1]
  | some f =>
    cases q with
    | none => cases h1
    | some x =>
      cases p with
      | none =>
        simp only [inO, Bool.and_eq_true] at h1 h2
        simp only [cmb, inO, suO, vsO, Bool.and_eq_true]
        refine ⟨union_least h1.1 (by simp [within]), ?_⟩
        simp at h2; simp [h2]
      | some g =>
        simp only [inO, Bool.and_eq_true] at h1 h2
        simp only [cmb, inO, suO, vsO, Bool.and_eq_true]
        refine ⟨union_least h1.1 h2.1, ?_⟩
        have a := h1.2
        have b := h2.2
        revert a b
        cases x.su <;> cases f.su <;> cases g.su <;> simp
theorem cmb_again {n : ByteArray} {o p : Option Fld} : cmb n (cmb n o p) o = cmb n o p := by
  cases o with
  | none =>
    cases p with
    | none => rfl
    | some g => simp only [cmb, suO, vsO, Bool.false_and, List.append_nil, List.nil_append]; rw [norm_may (may_norm _)]
  | some f =>
    have hb : ∀ a b : Bool, (a && b && a) = (a && b) := by decide
    cases p with
    | none => simp only [cmb, suO, vsO]; rw [hb, ← union_again]
    | some g => simp only [cmb, suO, vsO]; rw [hb, ← union_again]
theorem norm_nil : norm ([] : List Atm) = [] := rfl
theorem cmb_assoc (n : ByteArray) (o p q : Option Fld) : cmb n (cmb n o p) q = cmb n o (cmb n p q) := by
  have nn : ∀ l : List Atm, norm (norm l) = norm l := fun l => norm_may (may_norm _)
  have e1 : ∀ a b : List Atm, norm (norm a ++ b) = norm (a ++ b) := fun a b => by
    have := union_assoc [] a b
    simp only [List.nil_append] at this
    rw [this]; exact nn _
  have e2 : ∀ a b : List Atm, norm (a ++ norm b) = norm (a ++ b) := fun a b => by rw [union_comm, e1, union_comm]
  cases o <;> cases p <;> cases q <;> simp only [cmb, suO, vsO, Bool.false_and, Bool.and_false, List.nil_append, List.append_nil, e1, e2, nn, List.append_assoc, Bool.and_assoc]
theorem both_in {n : ByteArray} {o p : Option Fld} (ho : OkO n o) (hp : OkO n p) (h1 : inO o p = true) (h2 : inO p o = true) : o = p := by
  cases o with
  | none =>
    cases p with
    | none => rfl
    | some g => cases h2
  | some f =>
    cases p with
    | none => cases h1
    | some g =>
      obtain ⟨n1, m1⟩ := ho f rfl
      obtain ⟨n2, m2⟩ := hp g rfl
      simp only [inO, Bool.and_eq_true] at h1 h2
      have e3 : f.vs = g.vs := by
        have := both_within m1 m2
        rw [h1.1, h2.1] at this
        exact of_decide_eq_true this.symm
      have e2 : f.su = g.su := by
        have a := h1.2
        have b := h2.2
        revert a b
        cases f.su <;> cases g.su <;> simp
      cases f; cases g; simp at n1 n2 e2 e3; subst n1 e2 e3; rw [n2]
theorem joinS_ext {a b : Shp} (ha : RisF a.fs) (hb : RisF b.fs) (h : ∀ n, getF a.fs n = getF b.fs n) (hp : a.pr = b.pr) : a = b := shp_ext (risF_ext ha hb h) hp
theorem joinS_comm (a b : Shp) : joinS a b = joinS b a :=
  joinS_ext (ris_joinF _ _) (ris_joinF _ _) (fun n => by show getF (joinF _ _) n = getF (joinF _ _) n; rw [get_joinF, get_joinF, cmb_comm]) (union_comm _ _)
theorem joinS_again (a b : Shp) : joinS (joinS a b) a = joinS a b :=
  joinS_ext (ris_joinF _ _) (ris_joinF _ _) (fun n => by show getF (joinF (joinF _ _) _) n = getF (joinF _ _) n; rw [get_joinF, get_joinF, cmb_again]) (union_again _ _).symm
theorem joinS_assoc (a b c : Shp) : joinS (joinS a b) c = joinS a (joinS b c) :=
  joinS_ext (ris_joinF _ _) (ris_joinF _ _) (fun n => by show getF (joinF (joinF _ _) _) n = getF (joinF _ (joinF _ _)) n; rw [get_joinF, get_joinF, get_joinF, get_joinF, cmb_assoc]) (union_assoc _ _ _)
theorem ris_may {s : Shp} (h : mayS s = true) : RisF s.fs := ((mayS_iff s).1 h).1
theorem pr_may {s : Shp} (h : mayS s = true) : mayL s.pr = true := ((mayS_iff s).1 h).2.2
theorem joinS_left {a b : Shp} (ha : mayS a = true) : withinS a (joinS a b) = true :=
  (withinS_iff (ris_may ha) (ris_joinF _ _)).2 ⟨within_left _ (pr_may ha), fun n => by show inO _ (getF (joinF _ _) n) = true; rw [get_joinF]; exact cmb_left (okO_get ha n)⟩
theorem joinS_right {a b : Shp} (hb : mayS b = true) : withinS b (joinS a b) = true := by rw [joinS_comm]; exact joinS_left hb
theorem withinS_refl (a : Shp) (ha : mayS a = true) : withinS a a = true := (withinS_iff (ris_may ha) (ris_may ha)).2 ⟨within_refl _, fun n => inO_refl _⟩
theorem joinS_least {a b c : Shp} (ha : mayS a = true) (hb : mayS b = true) (hc : mayS c = true) (h1 : withinS a c = true) (h2 : withinS b c = true) : withinS (joinS a b) c = true := by
  have k1 := (withinS_iff (ris_may ha) (ris_may hc)).1 h1
  have k2 := (withinS_iff (ris_may hb) (ris_may hc)).1 h2
  exact (withinS_iff (ris_joinF _ _) (ris_may hc)).2 ⟨union_least k1.1 k2.1, fun n => by show inO (getF (joinF _ _) n) _ = true; rw [get_joinF]; exact cmb_least (k1.2 n) (k2.2 n)⟩
theorem bothS {a b : Shp} (ha : mayS a = true) (hb : mayS b = true) : (withinS a b && withinS b a) = sameS a b := by
  rw [Bool.eq_iff_iff, Bool.and_eq_true, sameS, decide_eq_true_iff]
  constructor
  · rintro ⟨h1, h2⟩
    have k1 := (withinS_iff (ris_may ha) (ris_may hb)).1 h1
    have k2 := (withinS_iff (ris_may hb) (ris_may ha)).1 h2
    refine joinS_ext (ris_may ha) (ris_may hb) (fun n => both_in (okO_get ha n) (okO_get hb n) (k1.2 n) (k2.2 n)) ?_
    have := both_within (pr_may ha) (pr_may hb)
    rw [k1.1, k2.1] at this
    exact of_decide_eq_true this.symm
  · rintro rfl; exact ⟨withinS_refl a ha, withinS_refl a ha⟩

/-! What is written. -/
def strongS (s : Shp) (n : ByteArray) (v : List Atm) : Shp := ⟨withF ⟨n, true, norm v⟩ s.fs, s.pr⟩
def weakS (s : Shp) (n : ByteArray) (v : List Atm) : Shp := ⟨withF ⟨n, suO (getF s.fs n), norm (vsO (getF s.fs n) ++ v)⟩ s.fs, s.pr⟩
theorem may_withF {f : Fld} {l : List Fld} (h : ∀ g ∈ l, mayL g.vs = true) (hf : mayL f.vs = true) : ∀ g ∈ withF f l, mayL g.vs = true := fun g hg => by
  rcases mem_withF hg with e | e
  · rw [e]; exact hf
  · exact h g e
theorem may_strong {s : Shp} (h : mayS s = true) (n : ByteArray) (v : List Atm) : mayS (strongS s n v) = true :=
  (mayS_iff _).2 ⟨ris_withF (ris_may h), may_withF ((mayS_iff s).1 h).2.1 (may_norm _), ((mayS_iff s).1 h).2.2⟩
theorem may_weak {s : Shp} (h : mayS s = true) (n : ByteArray) (v : List Atm) : mayS (weakS s n v) = true :=
  (mayS_iff _).2 ⟨ris_withF (ris_may h), may_withF ((mayS_iff s).1 h).2.1 (may_norm _), ((mayS_iff s).1 h).2.2⟩
theorem get_strong {s : Shp} (h : mayS s = true) (n : ByteArray) (v : List Atm) (m : ByteArray) : getF (strongS s n v).fs m = if n = m then some ⟨n, true, norm v⟩ else getF s.fs m := get_withF m (ris_may h)
theorem get_weak {s : Shp} (h : mayS s = true) (n : ByteArray) (v : List Atm) (m : ByteArray) : getF (weakS s n v).fs m = if n = m then some ⟨n, suO (getF s.fs n), norm (vsO (getF s.fs n) ++ v)⟩ else getF s.fs m := get_withF m (ris_may h)
theorem strong_in_weak {s : Shp} (h : mayS s = true) (n : ByteArray) {v : List Atm} (hv : mayL v = true) {f : Fld} (hf : getF s.fs n = some f) : withinS (strongS s n v) (weakS s n v) = true := by
  refine (withinS_iff (ris_withF (ris_may h)) (ris_withF (ris_may h))).2 ⟨within_refl _, fun m => ?_⟩
  rw [get_strong h, get_weak h]
  by_cases e : n = m
  · rw [if_pos e, if_pos e, hf]
    simp only [inO, Bool.and_eq_true, suO, vsO]
    refine ⟨?_, by simp⟩
    rw [norm_may hv]
    exact within_right _ hv
  · rw [if_neg e, if_neg e]; exact inO_refl _
theorem was_in_weak {s : Shp} (h : mayS s = true) (n : ByteArray) (v : List Atm) : withinS s (weakS s n v) = true := by
  refine (withinS_iff (ris_may h) (ris_withF (ris_may h))).2 ⟨within_refl _, fun m => ?_⟩
  rw [get_weak h]
  by_cases e : n = m
  · subst e
    rw [if_pos rfl]
    cases hg : getF s.fs n with
    | none => simp [inO, suO]
    | some f =>
      simp only [inO, suO, vsO, Bool.and_eq_true]
      refine ⟨within_left _ (okO_get h n f hg).2, ?_⟩
      cases f.su <;> rfl
  · rw [if_neg e]; exact inO_refl _
theorem strong_twice {s : Shp} (h : mayS s = true) (n : ByteArray) (u v : List Atm) : strongS (strongS s n u) n v = strongS s n v :=
  joinS_ext (ris_withF (ris_withF (ris_may h))) (ris_withF (ris_may h)) (fun m => by
    rw [get_strong (may_strong h n u), get_strong h, get_strong h]
    by_cases e : n = m
    · rw [if_pos e, if_pos e]
    · rw [if_neg e, if_neg e, if_neg e]) rfl

/-! Renaming. -/
def renF (k : Int) (f : Fld) : Fld := ⟨f.nm, f.su, rename f.vs k⟩
def renS (s : Shp) (k : Int) : Shp := ⟨s.fs.map (renF k), rename s.pr k⟩
theorem ris_ren {l : List Fld} (k : Int) (h : RisF l) : RisF (l.map (renF k)) := by unfold RisF; rw [List.pairwise_map]; exact h
theorem get_ren (l : List Fld) (k : Int) (n : ByteArray) : getF (l.map (renF k)) n = (getF l n).map (renF k) := by
  induction l with
  | nil => rfl
  | cons x r ih =>
    rw [List.map_cons, getF_cons, getF_cons, ih]
    show (if x.nm = n then _ else _) = _
    by_cases h : x.nm = n
    · rw [if_pos h, if_pos h]; rfl
    · rw [if_neg h, if_neg h]
theorem may_renS {s : Shp} (h : mayS s = true) (k : Int) : mayS (renS s k) = true :=
  (mayS_iff _).2 ⟨ris_ren k (ris_may h), fun f hf => by
    obtain ⟨g, _, rfl⟩ := List.mem_map.1 hf
    exact may_norm _, may_norm _⟩
theorem rename_nil (k : Int) : rename [] k = [] := rfl
theorem ren_cmb {n : ByteArray} {o p : Option Fld} (k : Int) : (cmb n o p).map (renF k) = cmb n (o.map (renF k)) (p.map (renF k)) := by
  cases o <;> cases p <;> simp only [cmb, Option.map_some, Option.map_none, renF, suO, vsO]
  · rw [rename_union, rename_nil]
  · rw [rename_union, rename_nil]
  · rw [rename_union]
theorem ren_join (a b : Shp) (k : Int) : renS (joinS a b) k = joinS (renS a k) (renS b k) :=
  joinS_ext (ris_ren k (ris_joinF _ _)) (ris_joinF _ _) (fun n => by
    show getF ((joinF a.fs b.fs).map _) n = getF (joinF (a.fs.map _) (b.fs.map _)) n
    rw [get_ren, get_joinF, get_joinF, get_ren, get_ren, ren_cmb]) (rename_union _ _ _)
theorem inO_ren {o p : Option Fld} (k : Int) (h : inO o p = true) : inO (o.map (renF k)) (p.map (renF k)) = true := by
  cases o <;> cases p <;> simp only [Option.map_some, Option.map_none, inO, renF, Bool.and_eq_true] at h ⊢
  · exact h
  · cases h
  · exact ⟨rename_within k h.1, h.2⟩
theorem ren_within {a b : Shp} (ha : mayS a = true) (hb : mayS b = true) (k : Int) (h : withinS a b = true) : withinS (renS a k) (renS b k) = true := by
  have h' := (withinS_iff (ris_may ha) (ris_may hb)).1 h
  refine (withinS_iff (ris_ren k (ris_may ha)) (ris_ren k (ris_may hb))).2 ⟨rename_within k h'.1, fun n => ?_⟩
  show inO (getF (a.fs.map _) n) (getF (b.fs.map _) n) = true
  rw [get_ren, get_ren]
  exact inO_ren k (h'.2 n)
theorem ren_again (s : Shp) (k : Int) : renS (renS s k) k = renS s k := by
  refine shp_ext ?_ (rename_again _ _)
  show (s.fs.map (renF k)).map (renF k) = s.fs.map (renF k)
  rw [List.map_map]
  refine List.map_congr_left fun f _ => ?_
  show (⟨f.nm, f.su, rename (rename f.vs k) k⟩ : Fld) = ⟨f.nm, f.su, rename f.vs k⟩
  rw [rename_again]

/-! How great they are. -/
def Sm (K : Nat) (s : Shp) : Prop := s.fs.length ≤ K ∧ (∀ f ∈ s.fs, f.vs.length ≤ K) ∧ s.pr.length ≤ K
theorem vsO_len {K : Nat} {s : Shp} (h : Sm K s) (n : ByteArray) : (vsO (getF s.fs n)).length ≤ K := by
  cases hg : getF s.fs n with
  | none => exact Nat.zero_le _
  | some f => exact h.2.1 f (getF_mem hg)
theorem sm_join {K L : Nat} {a b : Shp} (ha : Sm K a) (hb : Sm L b) : Sm (K + L) (joinS a b) := by
  refine ⟨Nat.le_trans (joinF_length _ _) (Nat.add_le_add ha.1 hb.1), fun f hf => ?_, ?_⟩
  · have := getF_of_mem (ris_joinF a.fs b.fs) hf
    rw [get_joinF] at this
    have key : f.vs = norm (vsO (getF a.fs f.nm) ++ vsO (getF b.fs f.nm)) := by
      revert this
      cases getF a.fs f.nm <;> cases getF b.fs f.nm <;> simp only [cmb, Option.some.injEq] <;> intro h
      · cases h
      all_goals (rw [← h])
    rw [key]
    have := norm_length (vsO (getF a.fs f.nm) ++ vsO (getF b.fs f.nm))
    rw [List.length_append] at this
    have h1 := vsO_len ha f.nm
    have h2 := vsO_len hb f.nm
    omega
  · have := norm_length (a.pr ++ b.pr)
    rw [List.length_append] at this
    have h1 := ha.2.2
    have h2 := hb.2.2
    exact Nat.le_trans this (by omega)
theorem sm_mono {K L : Nat} {s : Shp} (h : Sm K s) (hl : K ≤ L) : Sm L s := ⟨Nat.le_trans h.1 hl, fun f hf => Nat.le_trans (h.2.1 f hf) hl, Nat.le_trans h.2.2 hl⟩
theorem sm_with {K L : Nat} {s : Shp} {f : Fld} (h : Sm K s) (hK : K + 1 ≤ L) (hf : f.vs.length ≤ L) : Sm L ⟨withF f s.fs, s.pr⟩ := by
  refine ⟨?_, fun g hg => ?_, Nat.le_trans h.2.2 (by omega)⟩
  · have := withF_length f s.fs
    have := h.1
    show (withF f s.fs).length ≤ L
    omega
  · rcases mem_withF hg with e | e
    · rw [e]; exact hf
    · exact Nat.le_trans (h.2.1 g e) (by omega)
theorem rename_length (l : List Atm) (k : Int) : (rename l k).length ≤ l.length := by
  have := norm_length (l.map (ren k)); rw [List.length_map] at this; exact this
theorem sm_ren {K : Nat} {s : Shp} (h : Sm K s) (k : Int) : Sm K (renS s k) := by
  refine ⟨by show (s.fs.map _).length ≤ K; rw [List.length_map]; exact h.1, fun f hf => ?_, Nat.le_trans (rename_length _ _) h.2.2⟩
  obtain ⟨g, hg, rfl⟩ := List.mem_map.1 hf
  exact Nat.le_trans (rename_length _ _) (h.2.1 g hg)
def smallB (s : Shp) : Bool := s.fs.all (fun f => decide (f.vs.length ≤ 60)) && decide (s.fs.length ≤ 60) && decide (s.pr.length ≤ 60)
theorem small_sm {s : Shp} (h : smallB s = true) : Sm 60 s := by
  unfold smallB at h
  simp only [Bool.and_eq_true, List.all_eq_true, decide_eq_true_eq] at h
  exact ⟨h.1.2, h.1.1, h.2⟩
end M
end Go.Proofs.YtbaaeobdjiglgaaGreat
