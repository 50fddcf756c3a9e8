/-
  States as mathematics: what a variable is in a join; the document's Join, one variable and one object behind the other; two states that lie within each other. Nothing of the program's code is walked here. No conditions.
-/
import Derived.Test.YtbaaeobdjiglgaaGreatT3
set_option linter.unusedVariables false
namespace Go.Proofs.YtbaaeobdjiglgaaGreat
namespace M
instance memB (m : ByteArray) (ks : List ByteArray) : Decidable (m ∈ ks) := decidable_of_iff (ks.any (fun k => decide (k = m)) = true) (by simp)
theorem getK_key {κ ν : Type} [DecidableEq κ] {l : List (κ × ν)} {k : κ} : (getK l k).isSome = true ↔ k ∈ l.map (·.1) := by
  induction l with
  | nil => simp [getK]
  | cons x r ih =>
    simp only [getK, List.map_cons, List.mem_cons]
    by_cases h : x.1 = k
    · rw [if_pos h]; simp [h]
    · rw [if_neg h, ih]
      constructor
      · exact .inr
      · rintro (e | e)
        · exact absurd e.symm h
        · exact e
theorem varS_join {a b : Sta} (ha : MaySt a) (hb : MaySt b) (h1 : a.dead = false) (h2 : b.dead = false) (n : ByteArray) : varS (joinSt a b) n = norm (varS a n ++ varS b n) := by
  unfold varS
  rw [getV_join ha hb h1 h2]
  cases getK a.vs n <;> cases getK b.vs n <;> first | rfl | decide
/-- variables set one behind the other -/
theorem set_fold (g : ByteArray → List Atm) : ∀ (ks : List ByteArray) {s : Sta}, MaySt s → s.dead = false →
    MaySt (ks.foldl (fun s n => setS s n (g n)) s) ∧ (ks.foldl (fun s n => setS s n (g n)) s).dead = false ∧ (ks.foldl (fun s n => setS s n (g n)) s).ls = s.ls ∧
    ∀ m, getK (ks.foldl (fun s n => setS s n (g n)) s).vs m = if m ∈ ks then some (norm (g m)) else getK s.vs m
  | [], s, h, hd => ⟨h, hd, rfl, fun m => by simp⟩
  | k :: ks, s, h, hd => by
    have d1 : (setS s k (g k)).dead = false := by unfold setS; rw [hd]; rfl
    have l1 : (setS s k (g k)).ls = s.ls := by unfold setS; rw [hd]; rfl
    obtain ⟨h1, h2, h3, h4⟩ := set_fold g ks (may_set h k (g k)) d1
    refine ⟨h1, h2, h3.trans l1, fun m => ?_⟩
    rw [List.foldl_cons, h4, get_set h hd]
    by_cases hm : m ∈ ks
    · rw [if_pos hm, if_pos (List.mem_cons_of_mem _ hm)]
    · rw [if_neg hm]
      by_cases e : k = m
      · subst e; rw [if_pos rfl, if_pos List.mem_cons_self]
      · rw [if_neg e, if_neg (fun h => (List.mem_cons.1 h).elim (fun q => e q.symm) hm)]
/-- objects put one behind the other -/
theorem put_fold (g : Atm → Shp → Shp) : ∀ (l : List (Atm × Shp)) {s : Sta}, RisK keyA l → (∀ z ∈ l, placeB z.1 = true ∧ mayS (g z.1 z.2) = true) → MaySt s → s.dead = false →
    MaySt (l.foldl (fun s z => putS s z.1 (g z.1 z.2)) s) ∧ (l.foldl (fun s z => putS s z.1 (g z.1 z.2)) s).dead = false ∧ (l.foldl (fun s z => putS s z.1 (g z.1 z.2)) s).vs = s.vs ∧
    ∀ y, getK (l.foldl (fun s z => putS s z.1 (g z.1 z.2)) s).ls y = match getK l y with | some p => some (g y p) | none => getK s.ls y
  | [], s, _, _, h, hd => ⟨h, hd, rfl, fun y => rfl⟩
  | z :: l, s, hr, hz, h, hd => by
    have a := List.pairwise_cons.1 hr
    obtain ⟨hz1, hz2⟩ := hz z List.mem_cons_self
    have d1 : (putS s z.1 (g z.1 z.2)).dead = false := by unfold putS; rw [hd]; rfl
    have v1 : (putS s z.1 (g z.1 z.2)).vs = s.vs := by unfold putS; rw [hd]; rfl
    obtain ⟨h1, h2, h3, h4⟩ := put_fold g l (s := putS s z.1 (g z.1 z.2)) a.2 (fun w hw => hz w (List.mem_cons_of_mem _ hw)) (may_put h hz1 hz2) d1
    refine ⟨h1, h2, h3.trans v1, fun y => ?_⟩
    rw [List.foldl_cons, h4, get_put h hd]
    simp only [getK]
    by_cases e : z.1 = y
    · rw [if_pos e, if_pos e, getK_none fun w hw => fun q => keyA.ne (a.1 w hw) (by rw [q]; exact e), e]
    · rw [if_neg e, if_neg e]
/-- the document's Join, of states that are not dead -/
def rjoin (a b : Sta) : Sta :=
  let s1 := (a.vs.map (·.1)).foldl (fun s n => setS s n (norm (varS a n ++ varS b n))) a
  let s2 := (b.vs.map (·.1)).foldl (fun s n => setS s n (norm (varS a n ++ varS b n))) s1
  b.ls.foldl (fun s z => putS s z.1 (match getK a.ls z.1 with | some o => joinS o z.2 | none => z.2)) s2
theorem rjoin_eq {a b : Sta} (ha : MaySt a) (hb : MaySt b) (h1 : a.dead = false) (h2 : b.dead = false) : rjoin a b = joinSt a b := by
  obtain ⟨m1, d1, l1, g1⟩ := set_fold (fun n => norm (varS a n ++ varS b n)) (a.vs.map (·.1)) ha h1
  obtain ⟨m2, d2, l2, g2⟩ := set_fold (fun n => norm (varS a n ++ varS b n)) (b.vs.map (·.1)) m1 d1
  obtain ⟨m3, d3, l3, g3⟩ := put_fold (fun x p => match getK a.ls x with | some o => joinS o p | none => p) b.ls hb.lr (fun z hz => by
    have hg := getK_of_mem keyA hb.lr (k := z.1) (v := z.2) hz
    refine ⟨(hb.lm _ _ hg).1, ?_⟩
    show mayS (match getK a.ls z.1 with | some o => joinS o z.2 | none => z.2) = true
    cases getK a.ls z.1 with
    | none => exact (hb.lm _ _ hg).2
    | some o => exact may_joinS _ _) m2 d2
  refine sta_ext m3 (may_join ha hb) (by rw [join_dead, h1]; exact d3) (fun n => ?_) (fun x => ?_)
  · rw [getV_join ha hb h1 h2]
    rw [show (rjoin a b).vs = _ from l3, g2, g1]
    have nn : norm (norm (varS a n ++ varS b n)) = norm (varS a n ++ varS b n) := norm_may (may_norm _)
    by_cases hB : n ∈ b.vs.map (·.1)
    · rw [if_pos hB, nn]
      obtain ⟨v, hv⟩ := Option.isSome_iff_exists.1 (getK_key.2 hB)
      unfold varS
      rw [hv]
      cases getK a.vs n <;> rfl
    · rw [if_neg hB]
      have hb0 : getK b.vs n = none := by
        cases hg : getK b.vs n with
        | none => rfl
        | some v => exact absurd (getK_key.1 (by rw [hg]; rfl)) hB
      by_cases hA : n ∈ a.vs.map (·.1)
      · rw [if_pos hA, nn]
        obtain ⟨v, hv⟩ := Option.isSome_iff_exists.1 (getK_key.2 hA)
        unfold varS
        rw [hv, hb0]; rfl
      · rw [if_neg hA]
        have ha0 : getK a.vs n = none := by
          cases hg : getK a.vs n with
          | none => rfl
          | some v => exact absurd (getK_key.1 (by rw [hg]; rfl)) hA
        rw [ha0, hb0]; rfl
  · rw [getL_join ha hb h1 h2]
    rw [show getK (rjoin a b).ls x = _ from g3 x, l2, l1]
    cases getK b.ls x with
    | none => cases getK a.ls x <;> rfl
    | some p =>
      cases hq : getK a.ls x with
      | none => rfl
      | some q => rfl
/-- with each variable that another one has, too -/
def whole (s t : Sta) : Sta := if s.dead then s else (t.vs.map (·.1)).foldl (fun s n => setS s n (varS s n)) s
theorem whole_fold (a : Sta) (ha : MaySt a) : ∀ (ks : List ByteArray) {s : Sta}, MaySt s → s.dead = false → (∀ m, varS s m = varS a m) →
    ks.foldl (fun s n => setS s n (varS s n)) s = ks.foldl (fun s n => setS s n (varS a n)) s
  | [], s, _, _, _ => rfl
  | k :: ks, s, h, hd, hv => by
    rw [List.foldl_cons, List.foldl_cons, hv k]
    have d1 : (setS s k (varS a k)).dead = false := by unfold setS; rw [hd]; rfl
    refine whole_fold a ha ks (may_set h k _) d1 fun m => ?_
    unfold varS
    rw [get_set h hd]
    by_cases e : k = m
    · rw [if_pos e, ← e]
      show norm ((getK a.vs k).getD nul) = _
      exact norm_may (mayV ha k)
    · rw [if_neg e]; exact hv m
theorem whole_facts {a b : Sta} (ha : MaySt a) (h1 : a.dead = false) : MaySt (whole a b) ∧ (whole a b).dead = false ∧ (whole a b).ls = a.ls ∧ ∀ m, getK (whole a b).vs m = if m ∈ b.vs.map (·.1) then some (varS a m) else getK a.vs m := by
  unfold whole
  rw [h1, if_neg (by decide), whole_fold a ha _ ha h1 fun _ => rfl]
  obtain ⟨m1, d1, l1, g1⟩ := set_fold (fun n => varS a n) (b.vs.map (·.1)) ha h1
  refine ⟨m1, d1, l1, fun m => ?_⟩
  rw [g1]
  split
  · show some (norm (varS a m)) = _
    exact congrArg some (norm_may (mayV ha m))
  · rfl
theorem inL_both {p q : Option Shp} (hp : MayO p) (hq : MayO q) : (inL p q = true ∧ inL q p = true) ↔ p = q := by
  cases p with
  | none =>
    cases q with
    | none => simp [inL]
    | some y => simp [inL]
  | some x =>
    cases q with
    | none => simp [inL]
    | some y =>
      have h := bothS (hp x rfl) (hq y rfl)
      constructor
      · rintro ⟨h1, h2⟩
        have h1 : withinS x y = true := h1
        have h2 : withinS y x = true := h2
        rw [h1, h2] at h
        rw [of_decide_eq_true h.symm]
      · intro e
        cases e
        exact ⟨withinS_refl _ (hp _ rfl), withinS_refl _ (hp _ rfl)⟩
theorem inV_both {a b : Sta} (ha : MaySt a) (hb : MaySt b) (n : ByteArray) : (inV (getK a.vs n) (getK b.vs n) = true ∧ inV (getK b.vs n) (getK a.vs n) = true) ↔ varS a n = varS b n := by
  have h := both_within (mayV ha n) (mayV hb n)
  unfold varS inV
  constructor
  · rintro ⟨h1, h2⟩
    rw [h1, h2] at h
    exact of_decide_eq_true h.symm
  · intro e
    rw [e]
    exact ⟨within_refl _, within_refl _⟩
/-- StateOrder: two that lie within each other -/
theorem both_st {a b : Sta} (ha : MaySt a) (hb : MaySt b) : (withinSt a b && withinSt b a) = decide (whole a b = whole b a) := by
  rw [Bool.eq_iff_iff, Bool.and_eq_true, decide_eq_true_eq]
  cases d1 : a.dead with
  | true =>
    have e1 : whole a b = a := by unfold whole; rw [if_pos d1]
    have v1 := ha.dd d1
    have e2 : whole b a = b := by unfold whole; rw [v1.1]; split <;> rfl
    rw [e1, e2]
    constructor
    · rintro ⟨_, h⟩
      cases d2 : b.dead with
      | true =>
        have v2 := hb.dd d2
        cases a; cases b; simp only at *; rw [d1, d2, v1.1, v1.2, v2.1, v2.2]
      | false =>
        have := ((withinSt_iff hb ha d2).1 h).1
        rw [d1] at this; cases this
    · intro e
      subst e
      exact ⟨withinSt_dead d1, withinSt_dead d1⟩
  | false =>
    cases d2 : b.dead with
    | true =>
      have e2 : whole b a = b := by unfold whole; rw [if_pos d2]
      constructor
      · rintro ⟨h, _⟩
        have := ((withinSt_iff ha hb d1).1 h).1
        rw [d2] at this; cases this
      · intro e
        have := (whole_facts (b := b) ha d1).2.1
        rw [e, e2, d2] at this; cases this
    | false =>
      obtain ⟨m1, p1, l1, g1⟩ := whole_facts (b := b) ha d1
      obtain ⟨m2, p2, l2, g2⟩ := whole_facts (b := a) hb d2
      rw [withinSt_iff ha hb d1, withinSt_iff hb ha d2]
      constructor
      · rintro ⟨⟨_, v1, q1⟩, ⟨_, v2, q2⟩⟩
        have hv : ∀ n, varS a n = varS b n := fun n => (inV_both ha hb n).1 ⟨v1 n, v2 n⟩
        refine sta_ext m1 m2 (by rw [p1, p2]) (fun n => ?_) (fun x => ?_)
        · rw [g1, g2]
          have hv := hv n
          unfold varS at hv ⊢
          cases hA : getK a.vs n with
          | none =>
            rw [if_neg (c := n ∈ a.vs.map (·.1)) (fun h => by have := getK_key.2 h; rw [hA] at this; cases this)]
            cases hB : getK b.vs n with
            | none => rw [if_neg (fun h => by have := getK_key.2 h; rw [hB] at this; cases this)]
            | some v => rw [if_pos (getK_key.1 (by rw [hB]; rfl))]; rw [hA, hB] at hv; rw [hv]; rfl
          | some u =>
            rw [if_pos (c := n ∈ a.vs.map (·.1)) (getK_key.1 (by rw [hA]; rfl))]
            cases hB : getK b.vs n with
            | none => rw [if_neg (fun h => by have := getK_key.2 h; rw [hB] at this; cases this)]; rw [hA, hB] at hv; rw [← hv]; rfl
            | some v => rw [if_pos (getK_key.1 (by rw [hB]; rfl))]; rw [hA, hB] at hv; rw [hv]
        · rw [l1, l2]; exact (inL_both (mayO ha x) (mayO hb x)).1 ⟨q1 x, q2 x⟩
      · intro e
        have hv : ∀ n, varS a n = varS b n := fun n => by
          have := g1 n
          rw [e, g2] at this
          cases hA : getK a.vs n with
          | none =>
            cases hB : getK b.vs n with
            | none => unfold varS; rw [hA, hB]
            | some v =>
              rw [if_neg (fun h => by have := getK_key.2 h; rw [hA] at this; cases this), if_pos (getK_key.1 (by rw [hB]; rfl)), hB] at this
              have := Option.some.inj this
              rw [← this]; unfold varS; rw [hB]; rfl
          | some u =>
            rw [if_pos (getK_key.1 (by rw [hA]; rfl))] at this
            cases hB : getK b.vs n with
            | none =>
              rw [if_neg (fun h => by have := getK_key.2 h; rw [hB] at this; cases this), hA] at this
              have := Option.some.inj this
              rw [this]; unfold varS; rw [hA]; rfl
            | some v =>
              rw [if_pos (getK_key.1 (by rw [hB]; rfl))] at this
              exact (Option.some.inj this).symm
        have hl : ∀ x, getK a.ls x = getK b.ls x := fun x => by rw [← l1, e, l2]
        exact ⟨⟨d2, fun n => ((inV_both ha hb n).2 (hv n)).1, fun x => ((inL_both (mayO ha x) (mayO hb x)).2 (hl x)).1⟩, ⟨d1, fun n => ((inV_both ha hb n).2 (hv n)).2, fun x => ((inL_both (mayO ha x) (mayO hb x)).2 (hl x)).2⟩⟩
end M
end Go.Proofs.YtbaaeobdjiglgaaGreat
