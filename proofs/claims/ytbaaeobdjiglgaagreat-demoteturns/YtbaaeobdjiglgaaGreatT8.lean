/-
  What lies within, and joins, when the newest object grows old; what a new one is told by: as mathematics. Nothing of the program's code is walked here. No conditions.
-/
import Derived.Test.YtbaaeobdjiglgaaGreatT7
set_option linter.unusedVariables false
set_option linter.unusedSimpArgs false
namespace Go.Proofs.YtbaaeobdjiglgaaGreat
namespace M
theorem rename_nul (k : Int) : rename nul k = nul := rename_none k may_nul (by simp [has, nul])
theorem getD_ren (p : Option (List Atm)) (k : Int) : (p.map (rename · k)).getD nul = rename (p.getD nul) k := by
  cases p with
  | none => exact (rename_nul k).symm
  | some v => rfl
theorem inV_ren {p q : Option (List Atm)} (k : Int) (h : inV p q = true) : inV (p.map (rename · k)) (q.map (rename · k)) = true := by
  unfold inV at *
  rw [getD_ren, getD_ren]
  exact rename_within k h
theorem mayO_ren {p : Option Shp} (h : MayO p) (k : Int) : MayO (p.map (renS · k)) := fun x hx => by
  obtain ⟨q, hq, rfl⟩ := map_some hx
  exact may_renS (h q hq) k
theorem inL_ren {p q : Option Shp} (hp : MayO p) (hq : MayO q) (k : Int) (h : inL p q = true) : inL (p.map (renS · k)) (q.map (renS · k)) = true := by
  cases p with
  | none => cases q <;> rfl
  | some x =>
    cases q with
    | none => cases h
    | some y => exact ren_within (hp x rfl) (hq y rfl) k h
theorem mayO_cmb {p q : Option Shp} (hp : MayO p) (hq : MayO q) : MayO (cmbL p q) := by
  intro x hx
  cases p with
  | none =>
    cases q with
    | none => cases hx
    | some y => simp [cmbL, both2, locJ] at hx; subst hx; exact hq y rfl
  | some z =>
    cases q with
    | none => simp [cmbL, both2, locJ] at hx; subst hx; exact hp z rfl
    | some y => simp [cmbL, both2, locJ] at hx; subst hx; exact may_joinS _ _
theorem inL_cmb {p q r t : Option Shp} (hp : MayO p) (hq : MayO q) (hr : MayO r) (ht : MayO t) (h1 : inL p r = true) (h2 : inL q t = true) : inL (cmbL p q) (cmbL r t) = true :=
  inL_least hp hq (mayO_cmb hr ht) (inL_trans hp hr (mayO_cmb hr ht) h1 (inL_left t hr)) (inL_trans hq ht (mayO_cmb hr ht) h2 (by rw [cmbL_comm]; exact inL_left r ht))
theorem age_within {s t : Sta} (hs : MaySt s) (ht : MaySt t) {k : Int} (hk : 0 ≤ k) (h : withinSt s t = true) : withinSt (ageSt s k) (ageSt t k) = true := by
  cases hd : s.dead with
  | true => exact withinSt_dead (by rw [age_dead]; exact hd)
  | false =>
    obtain ⟨h0, h1, h2⟩ := (withinSt_iff hs ht hd).1 h
    refine (withinSt_iff (may_age hs hk) (may_age ht hk) (by rw [age_dead]; exact hd)).2 ⟨by rw [age_dead]; exact h0, fun n => ?_, fun y => ?_⟩
    · rw [getV_age hs, getV_age ht]; exact inV_ren k (h1 n)
    · rw [getL_age hs, getL_age ht]
      by_cases h4 : y = ⟨4, k⟩
      · rw [if_pos h4, if_pos h4]; rfl
      · rw [if_neg h4, if_neg h4]
        by_cases h5 : y = ⟨5, k⟩
        · rw [if_pos h5, if_pos h5]
          exact inL_cmb (mayO_ren (mayO hs _) k) (mayO_ren (mayO hs _) k) (mayO_ren (mayO ht _) k) (mayO_ren (mayO ht _) k) (inL_ren (mayO hs _) (mayO ht _) k (h2 _)) (inL_ren (mayO hs _) (mayO ht _) k (h2 _))
        · rw [if_neg h5, if_neg h5]
          exact inL_ren (mayO hs _) (mayO ht _) k (h2 y)
theorem may_alloc {s : Sta} (hs : MaySt s) (n : ByteArray) {k : Int} (hk : 0 ≤ k) {o : Shp} (ho : mayS o = true) : MaySt (allocSt s n k o) :=
  may_set (may_put (may_age hs hk) (place45 hk).1 (may_renS ho k)) n _
theorem put_dead (s : Sta) (x : Atm) (p : Shp) : (putS s x p).dead = s.dead := by
  unfold putS
  split
  · rfl
  · rename_i h; simp at h; rw [h]
theorem set_dead (s : Sta) (n : ByteArray) (v : List Atm) : (setS s n v).dead = s.dead := by
  unfold setS
  split
  · rfl
  · rename_i h; simp at h; rw [h]
theorem put_vs (s : Sta) (x : Atm) (p : Shp) : (putS s x p).vs = s.vs := by unfold putS; split <;> rfl
theorem set_ls (s : Sta) (n : ByteArray) (v : List Atm) : (setS s n v).ls = s.ls := by unfold setS; split <;> rfl
theorem alloc_dead (s : Sta) (n : ByteArray) (k : Int) (o : Shp) : (allocSt s n k o).dead = s.dead := by
  unfold allocSt
  rw [set_dead, put_dead, age_dead]
theorem norm_rec {k : Int} (hk : 0 ≤ k) : norm [⟨4, k⟩] = [⟨4, k⟩] := by
  have : mayL [⟨4, k⟩] = true := (may_iff _).2 ⟨by unfold Rising; simp, fun x hx => by rw [List.mem_singleton.1 hx]; simp [okA, hk]⟩
  unfold mayL at this
  exact (of_decide_eq_true this).symm
theorem getV_alloc {s : Sta} (hs : MaySt s) (hd : s.dead = false) (n : ByteArray) {k : Int} (hk : 0 ≤ k) {o : Shp} (ho : mayS o = true) (m : ByteArray) : getK (allocSt s n k o).vs m = if n = m then some [⟨4, k⟩] else (getK s.vs m).map (rename · k) := by
  unfold allocSt
  rw [get_set (may_put (may_age hs hk) (place45 hk).1 (may_renS ho k)) (by rw [put_dead, age_dead]; exact hd), norm_rec hk, put_vs, getV_age hs]
theorem getL_alloc {s : Sta} (hs : MaySt s) (hd : s.dead = false) (n : ByteArray) {k : Int} (hk : 0 ≤ k) {o : Shp} (y : Atm) : getK (allocSt s n k o).ls y = if (⟨4, k⟩ : Atm) = y then some (renS o k) else getK (ageSt s k).ls y := by
  unfold allocSt
  rw [set_ls, get_put (may_age hs hk) (by rw [age_dead]; exact hd)]
theorem alloc_of_dead {s : Sta} (h : MaySt s) (n : ByteArray) (k : Int) (o : Shp) (hd : s.dead = true) : allocSt s n k o = s := by
  unfold allocSt
  rw [age_of_dead h k hd]
  have : putS s ⟨4, k⟩ (renS o k) = s := by unfold putS; rw [if_pos hd]
  rw [this]
  unfold setS
  rw [if_pos hd]
theorem alloc_within {s t : Sta} (hs : MaySt s) (ht : MaySt t) (n : ByteArray) {k : Int} (hk : 0 ≤ k) {o : Shp} (ho : mayS o = true) (h : withinSt s t = true) : withinSt (allocSt s n k o) (allocSt t n k o) = true := by
  cases hd : s.dead with
  | true => exact withinSt_dead (by rw [alloc_dead]; exact hd)
  | false =>
    obtain ⟨h0, h1, h2⟩ := (withinSt_iff hs ht hd).1 h
    have ha := age_within hs ht hk h
    obtain ⟨_, _, a2⟩ := (withinSt_iff (may_age hs hk) (may_age ht hk) (by rw [age_dead]; exact hd)).1 ha
    refine (withinSt_iff (may_alloc hs n hk ho) (may_alloc ht n hk ho) (by rw [alloc_dead]; exact hd)).2 ⟨by rw [alloc_dead]; exact h0, fun m => ?_, fun y => ?_⟩
    · rw [getV_alloc hs hd n hk ho, getV_alloc ht h0 n hk ho]
      by_cases e : n = m
      · rw [if_pos e, if_pos e]; exact inV_refl _
      · rw [if_neg e, if_neg e]; exact inV_ren k (h1 m)
    · rw [getL_alloc hs hd n hk, getL_alloc ht h0 n hk]
      by_cases e : (⟨4, k⟩ : Atm) = y
      · rw [if_pos e, if_pos e]
        exact inL_refl (fun x hx => by cases hx; exact may_renS ho k)
      · rw [if_neg e, if_neg e]; exact a2 y
theorem cmbV_ren (p q : Option (List Atm)) (k : Int) : (cmbV p q).map (rename · k) = cmbV (p.map (rename · k)) (q.map (rename · k)) := by
  have e : rename (varJ p q) k = varJ (p.map (rename · k)) (q.map (rename · k)) := by
    unfold varJ
    rw [getD_ren, getD_ren, rename_union]
  cases p with
  | none =>
    cases q with
    | none => rfl
    | some y => simpa [cmbV, both2] using e
  | some x =>
    cases q with
    | none => simpa [cmbV, both2] using e
    | some y => simpa [cmbV, both2] using e
theorem cmbL_four (a b c d : Option Shp) : cmbL (cmbL a b) (cmbL c d) = cmbL (cmbL a c) (cmbL b d) := by
  rw [cmbL_assoc, cmbL_assoc, ← cmbL_assoc b c d, cmbL_comm b c, cmbL_assoc c b d]
theorem age_join {s t : Sta} (hs : MaySt s) (ht : MaySt t) {k : Int} (hk : 0 ≤ k) : ageSt (joinSt s t) k = joinSt (ageSt s k) (ageSt t k) := by
  cases h1 : s.dead with
  | true =>
    have e1 : joinSt s t = t := by unfold joinSt; rw [if_pos h1]
    have e2 : joinSt (ageSt s k) (ageSt t k) = ageSt t k := by unfold joinSt; rw [if_pos (by rw [age_dead]; exact h1)]
    rw [e1, e2]
  | false =>
    cases h2 : t.dead with
    | true => rw [join_right_dead h1 h2, join_right_dead (by rw [age_dead]; exact h1) (by rw [age_dead]; exact h2)]
    | false =>
      have hj := may_join hs ht
      have a1 : (ageSt s k).dead = false := by rw [age_dead]; exact h1
      have a2 : (ageSt t k).dead = false := by rw [age_dead]; exact h2
      refine sta_ext (may_age hj hk) (may_join (may_age hs hk) (may_age ht hk)) (by rw [age_dead, join_dead, join_dead, age_dead, age_dead]) (fun n => ?_) fun y => ?_
      · rw [getV_age hj, getV_join hs ht h1 h2, getV_join (may_age hs hk) (may_age ht hk) a1 a2, getV_age hs, getV_age ht, cmbV_ren]
      · rw [getL_age hj, getL_join (may_age hs hk) (may_age ht hk) a1 a2, getL_age hs, getL_age ht]
        by_cases h4 : y = ⟨4, k⟩
        · rw [if_pos h4, if_pos h4, if_pos h4]; rfl
        · rw [if_neg h4, if_neg h4, if_neg h4]
          by_cases h5 : y = ⟨5, k⟩
          · rw [if_pos h5, if_pos h5, if_pos h5]
            unfold oldO
            rw [getL_join hs ht h1 h2, getL_join hs ht h1 h2, cmbL_ren, cmbL_ren, cmbL_four]
          · rw [if_neg h5, if_neg h5, if_neg h5, getL_join hs ht h1 h2, cmbL_ren]
/-- what is told of a new object -/
theorem alloc_facts {s : Sta} (hs : MaySt s) (hd : s.dead = false) (n : ByteArray) {k : Int} (hk : 0 ≤ k) {o : Shp} (ho : mayS o = true) :
    (∀ z ∈ (allocSt s n k o).vs, has z.2 ⟨4, k⟩ = decide (z.1 = n)) ∧ (∀ z ∈ (allocSt s n k o).ls, mute z.2 ⟨4, k⟩ = true) ∧ getK (allocSt s n k o).ls ⟨4, k⟩ = some (renS o k) ∧ varS (allocSt s n k o) n = [⟨4, k⟩] := by
  have hm := may_alloc hs n hk ho
  refine ⟨fun z hz => ?_, fun z hz => ?_, by rw [getL_alloc hs hd n hk, if_pos rfl], by unfold varS; rw [getV_alloc hs hd n hk ho, if_pos rfl]; rfl⟩
  · have e := getK_of_mem keyN hm.vr (k := z.1) (v := z.2) hz
    rw [getV_alloc hs hd n hk ho] at e
    by_cases h : n = z.1
    · rw [if_pos h] at e
      have e := Option.some.inj e
      rw [← e]
      simp [has, h]
    · rw [if_neg h] at e
      obtain ⟨w, _, e⟩ := map_some e
      rw [← e, rename_has]
      exact (decide_eq_false fun e => h (Eq.symm e)).symm
  · have e := getK_of_mem keyA hm.lr (k := z.1) (v := z.2) hz
    rw [getL_alloc hs hd n hk] at e
    by_cases h : (⟨4, k⟩ : Atm) = z.1
    · rw [if_pos h] at e
      have e := Option.some.inj e
      rw [← e]
      exact mute_ren o k
    · rw [if_neg h] at e
      exact age_mute hs e
end M
end Go.Proofs.YtbaaeobdjiglgaaGreat
