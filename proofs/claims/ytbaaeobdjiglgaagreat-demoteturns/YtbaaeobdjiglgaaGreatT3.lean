/-
  States as mathematics: which lies within which; a join is the least that has both; what is set is got. Nothing of the program's code is walked here. No conditions.
-/
import Derived.Test.YtbaaeobdjiglgaaGreatT2
set_option linter.unusedVariables false
namespace Go.Proofs.YtbaaeobdjiglgaaGreat
namespace M
theorem all_pairK {κ ν : Type} [DecidableEq κ] (o : Key κ) {a b : List (κ × ν)} (ha : RisK o a) (hb : RisK o b) (P : Option ν → Option ν → Bool) (h0 : P none none = true) :
    (pairK o a b).all (fun z => P z.2.1 z.2.2) = true ↔ ∀ k, P (getK a k) (getK b k) = true := by
  rw [List.all_eq_true]
  constructor
  · intro h k
    have hg := get_pairK o k ha hb
    cases hp : getK a k with
    | none =>
      cases hq : getK b k with
      | none => exact h0
      | some y => rw [hp, hq] at hg; exact h _ (getK_mem hg)
    | some x =>
      rw [hp] at hg
      exact h _ (getK_mem (v := (some x, getK b k)) hg)
  · rintro h ⟨k, p, q⟩ hz
    have hg := get_pairK o k ha hb
    rw [getK_of_mem o (ris_pairK o ha hb) hz] at hg
    unfold both2 at hg
    split at hg
    · simp only [Option.some.injEq, Prod.mk.injEq] at hg
      obtain ⟨rfl, rfl⟩ := hg
      exact h k
    · cases hg
def inV (p q : Option (List Atm)) : Bool := within (p.getD nul) (q.getD nul)
def inL : Option Shp → Option Shp → Bool
  | some x, some y => withinS x y
  | some _, none => false
  | none, _ => true
def withinSt (a b : Sta) : Bool := a.dead || (!b.dead && (pairK keyN a.vs b.vs).all (fun z => inV z.2.1 z.2.2) && (pairK keyA a.ls b.ls).all (fun z => inL z.2.1 z.2.2))
theorem withinSt_iff {a b : Sta} (ha : MaySt a) (hb : MaySt b) (h1 : a.dead = false) : withinSt a b = true ↔ b.dead = false ∧ (∀ n, inV (getK a.vs n) (getK b.vs n) = true) ∧ ∀ x, inL (getK a.ls x) (getK b.ls x) = true := by
  unfold withinSt
  rw [h1, Bool.false_or, Bool.and_eq_true, Bool.and_eq_true, all_pairK keyN ha.vr hb.vr inV (by decide), all_pairK keyA ha.lr hb.lr inL rfl, Bool.not_eq_true', and_assoc]
theorem withinSt_dead {a b : Sta} (h : a.dead = true) : withinSt a b = true := by unfold withinSt; rw [h]; rfl
theorem may_nul : mayL nul = true := by decide
theorem mayV {s : Sta} (h : MaySt s) (n : ByteArray) : mayL ((getK s.vs n).getD nul) = true := by
  cases hg : getK s.vs n with
  | none => exact may_nul
  | some v => exact h.vm n v hg
theorem inV_refl (p : Option (List Atm)) : inV p p = true := within_refl _
theorem inV_trans {p q r : Option (List Atm)} (h1 : inV p q = true) (h2 : inV q r = true) : inV p r = true := by
  unfold inV at *; rw [within_iff] at *; exact fun x hx => h2 x (h1 x hx)
theorem inV_left {p : Option (List Atm)} (q : Option (List Atm)) (h : mayL (p.getD nul) = true) : inV p (cmbV p q) = true := by
  cases p <;> cases q
  · exact within_refl _
  all_goals exact within_left _ h
theorem inV_least {p q r : Option (List Atm)} (h1 : inV p r = true) (h2 : inV q r = true) : inV (cmbV p q) r = true := by
  cases p <;> cases q
  · exact h1
  all_goals exact union_least h1 h2
theorem within_tr {a b c : List Atm} (h1 : within a b = true) (h2 : within b c = true) : within a c = true := by
  rw [within_iff] at *; exact fun x hx => h2 x (h1 x hx)
theorem inO_trans {p q r : Option Fld} (h1 : inO p q = true) (h2 : inO q r = true) : inO p r = true := by
  cases p with
  | none =>
    cases r with
    | none => rfl
    | some g =>
      cases q with
      | none => exact h2
      | some f =>
        simp only [inO, Bool.and_eq_true, Bool.or_eq_true, Bool.not_eq_true'] at h1 h2 ⊢
        rcases h2.2 with h | h
        · exact h
        · rw [h1] at h; cases h
  | some f =>
    cases q with
    | none => cases h1
    | some g =>
      cases r with
      | none => cases h2
      | some k =>
        simp only [inO, Bool.and_eq_true, Bool.or_eq_true, Bool.not_eq_true'] at h1 h2 ⊢
        refine ⟨within_tr h1.1 h2.1, ?_⟩
        rcases h2.2 with h | h
        · exact .inl h
        · rcases h1.2 with h' | h'
          · rw [h] at h'; cases h'
          · exact .inr h'
theorem withinS_trans {a b c : Shp} (ha : mayS a = true) (hb : mayS b = true) (hc : mayS c = true) (h1 : withinS a b = true) (h2 : withinS b c = true) : withinS a c = true := by
  rw [withinS_iff (ris_may ha) (ris_may hb)] at h1
  rw [withinS_iff (ris_may hb) (ris_may hc)] at h2
  rw [withinS_iff (ris_may ha) (ris_may hc)]
  refine ⟨?_, fun n => inO_trans (h1.2 n) (h2.2 n)⟩
  have a1 := h1.1
  have a2 := h2.1
  rw [within_iff] at *
  exact fun x hx => a2 x (a1 x hx)
def MayO (p : Option Shp) : Prop := ∀ x, p = some x → mayS x = true
theorem mayO {s : Sta} (h : MaySt s) (x : Atm) : MayO (getK s.ls x) := fun p hp => (h.lm x p hp).2
theorem inL_refl {p : Option Shp} (h : MayO p) : inL p p = true := by
  cases p with
  | none => rfl
  | some x => exact withinS_refl x (h x rfl)
theorem inL_trans {p q r : Option Shp} (hp : MayO p) (hq : MayO q) (hr : MayO r) (h1 : inL p q = true) (h2 : inL q r = true) : inL p r = true := by
  cases p with
  | none => rfl
  | some x =>
    cases q with
    | none => cases h1
    | some y =>
      cases r with
      | none => cases h2
      | some z => exact withinS_trans (hp x rfl) (hq y rfl) (hr z rfl) h1 h2
theorem inL_left {p : Option Shp} (q : Option Shp) (h : MayO p) : inL p (cmbL p q) = true := by
  cases p with
  | none => rfl
  | some x =>
    cases q with
    | none => exact withinS_refl x (h x rfl)
    | some y => exact joinS_left (h x rfl)
theorem inL_least {p q r : Option Shp} (hp : MayO p) (hq : MayO q) (hr : MayO r) (h1 : inL p r = true) (h2 : inL q r = true) : inL (cmbL p q) r = true := by
  cases p with
  | none =>
    cases q with
    | none => rfl
    | some y => exact h2
  | some x =>
    cases q with
    | none => exact h1
    | some y =>
      cases r with
      | none => cases h1
      | some z => exact joinS_least (hp x rfl) (hq y rfl) (hr z rfl) h1 h2
theorem withinSt_refl {a : Sta} (ha : MaySt a) : withinSt a a = true := by
  cases h : a.dead with
  | true => exact withinSt_dead h
  | false => exact (withinSt_iff ha ha h).2 ⟨h, fun n => inV_refl _, fun x => inL_refl (mayO ha x)⟩
theorem withinSt_trans {a b c : Sta} (ha : MaySt a) (hb : MaySt b) (hc : MaySt c) (h1 : withinSt a b = true) (h2 : withinSt b c = true) : withinSt a c = true := by
  cases h : a.dead with
  | true => exact withinSt_dead h
  | false =>
    obtain ⟨d1, v1, l1⟩ := (withinSt_iff ha hb h).1 h1
    obtain ⟨d2, v2, l2⟩ := (withinSt_iff hb hc d1).1 h2
    exact (withinSt_iff ha hc h).2 ⟨d2, fun n => inV_trans (v1 n) (v2 n), fun x => inL_trans (mayO ha x) (mayO hb x) (mayO hc x) (l1 x) (l2 x)⟩
theorem joinSt_left {a b : Sta} (ha : MaySt a) (hb : MaySt b) : withinSt a (joinSt a b) = true := by
  cases h1 : a.dead with
  | true => exact withinSt_dead h1
  | false =>
    cases h2 : b.dead with
    | true => unfold joinSt; rw [h1, if_neg (by decide), if_pos h2]; exact withinSt_refl ha
    | false =>
      refine (withinSt_iff ha (may_join ha hb) h1).2 ⟨by rw [join_dead, h1]; rfl, fun n => ?_, fun x => ?_⟩
      · rw [getV_join ha hb h1 h2]; exact inV_left _ (mayV ha n)
      · rw [getL_join ha hb h1 h2]; exact inL_left _ (mayO ha x)
theorem joinSt_right {a b : Sta} (ha : MaySt a) (hb : MaySt b) : withinSt b (joinSt a b) = true := by
  rw [joinSt_comm ha hb]; exact joinSt_left hb ha
theorem joinSt_least {a b c : Sta} (ha : MaySt a) (hb : MaySt b) (hc : MaySt c) (h1 : withinSt a c = true) (h2 : withinSt b c = true) : withinSt (joinSt a b) c = true := by
  cases d1 : a.dead with
  | true => unfold joinSt; rw [if_pos d1]; exact h2
  | false =>
    cases d2 : b.dead with
    | true => unfold joinSt; rw [d1, if_neg (by decide), if_pos d2]; exact h1
    | false =>
      obtain ⟨e1, v1, l1⟩ := (withinSt_iff ha hc d1).1 h1
      obtain ⟨e2, v2, l2⟩ := (withinSt_iff hb hc d2).1 h2
      refine (withinSt_iff (may_join ha hb) hc (by rw [join_dead, d1]; rfl)).2 ⟨e1, fun n => ?_, fun x => ?_⟩
      · rw [getV_join ha hb d1 d2]; exact inV_least (v1 n) (v2 n)
      · rw [getL_join ha hb d1 d2]; exact inL_least (mayO ha x) (mayO hb x) (mayO hc x) (l1 x) (l2 x)
theorem joinSt_again {a b : Sta} (ha : MaySt a) (hb : MaySt b) : joinSt (joinSt a b) a = joinSt a b := by
  cases d1 : a.dead with
  | true =>
    have e : joinSt a b = b := by unfold joinSt; rw [if_pos d1]
    rw [e, joinSt_comm hb ha, e]
  | false =>
    have mj := may_join ha hb
    have dj : (joinSt a b).dead = false := by rw [join_dead, d1]; rfl
    refine sta_ext (may_join mj ha) mj (by rw [join_dead, dj]; rfl) (fun n => ?_) (fun x => ?_)
    · rw [getV_join mj ha dj d1]
      cases d2 : b.dead with
      | true =>
        have e : joinSt a b = a := by unfold joinSt; rw [d1, if_neg (by decide), if_pos d2]
        rw [e]
        have := cmbV_again (getK a.vs n) (getK a.vs n)
        cases hg : getK a.vs n with
        | none => rfl
        | some v =>
          show some (norm (v ++ v)) = some v
          have hm := ha.vm n v hg
          have : norm (v ++ v) = norm v := norm_congr fun z _ => by simp
          rw [this, norm_may hm]
      | false => rw [getV_join ha hb d1 d2, cmbV_again]
    · rw [getL_join mj ha dj d1]
      cases d2 : b.dead with
      | true =>
        have e : joinSt a b = a := by unfold joinSt; rw [d1, if_neg (by decide), if_pos d2]
        rw [e]
        cases hg : getK a.ls x with
        | none => rfl
        | some p => show some (joinS p p) = some p; rw [joinS_self (ha.lm x p hg).2]
      | false => rw [getL_join ha hb d1 d2, cmbL_again _ (mayO ha x)]
theorem join_right_dead {a b : Sta} (h1 : a.dead = false) (h2 : b.dead = true) : joinSt a b = a := by unfold joinSt; rw [h1, if_neg (by decide), if_pos h2]
theorem joinSt_assoc {a b c : Sta} (ha : MaySt a) (hb : MaySt b) (hc : MaySt c) : joinSt (joinSt a b) c = joinSt a (joinSt b c) := by
  cases d1 : a.dead with
  | true => unfold joinSt; rw [if_pos d1, if_pos d1]
  | false =>
    cases d2 : b.dead with
    | true =>
      have e : joinSt a b = a := by unfold joinSt; rw [d1, if_neg (by decide), if_pos d2]
      have e2 : joinSt b c = c := by unfold joinSt; rw [if_pos d2]
      rw [e, e2]
    | false =>
      have mab := may_join ha hb
      have mbc := may_join hb hc
      have dab : (joinSt a b).dead = false := by rw [join_dead, d1]; rfl
      have dbc : (joinSt b c).dead = false := by rw [join_dead, d2]; rfl
      cases d3 : c.dead with
      | true =>
        have e : joinSt (joinSt a b) c = joinSt a b := join_right_dead dab d3
        have e2 : joinSt b c = b := by unfold joinSt; rw [d2, if_neg (by decide), if_pos d3]
        rw [e, e2]
      | false =>
        refine sta_ext (may_join mab hc) (may_join ha mbc) (by simp only [join_dead, Bool.and_assoc]) (fun n => ?_) (fun x => ?_)
        · rw [getV_join mab hc dab d3, getV_join ha hb d1 d2, getV_join ha mbc d1 dbc, getV_join hb hc d2 d3, cmbV_assoc]
        · rw [getL_join mab hc dab d3, getL_join ha hb d1 d2, getL_join ha mbc d1 dbc, getL_join hb hc d2 d3, cmbL_assoc]
/-! What is set, what is put. -/
theorem may_set {s : Sta} (h : MaySt s) (n : ByteArray) (v : List Atm) : MaySt (setS s n v) := by
  unfold setS
  split
  · exact h
  · rename_i hd
    refine ⟨ris_putK keyN h.vr, fun m u hu => ?_, h.lr, h.lm, fun e => by cases e⟩
    have hu : getK (putK keyN n (norm v) s.vs) m = some u := hu
    rw [get_putK keyN m h.vr] at hu
    split at hu
    · cases hu; exact may_norm _
    · exact h.vm m u hu
theorem get_set {s : Sta} (h : MaySt s) (hd : s.dead = false) (n : ByteArray) (v : List Atm) (m : ByteArray) : getK (setS s n v).vs m = if n = m then some (norm v) else getK s.vs m := by
  unfold setS; rw [hd]; exact get_putK keyN m h.vr
theorem may_put {s : Sta} (h : MaySt s) {x : Atm} {p : Shp} (hx : placeB x = true) (hp : mayS p = true) : MaySt (putS s x p) := by
  unfold putS
  split
  · exact h
  · refine ⟨h.vr, h.vm, ris_putK keyA h.lr, fun y q hq => ?_, fun e => by cases e⟩
    have hq : getK (putK keyA x p s.ls) y = some q := hq
    rw [get_putK keyA y h.lr] at hq
    split at hq
    · rename_i e; cases hq; rw [← e]; exact ⟨hx, hp⟩
    · exact h.lm y q hq
theorem get_put {s : Sta} (h : MaySt s) (hd : s.dead = false) (x : Atm) (p : Shp) (y : Atm) : getK (putS s x p).ls y = if x = y then some p else getK s.ls y := by
  unfold putS; rw [hd]; exact get_putK keyA y h.lr
/-- StateJoined: what is set in both to the same is that -/
theorem join_set {a b : Sta} (ha : MaySt a) (hb : MaySt b) (h1 : a.dead = false) (h2 : b.dead = false) (n : ByteArray) {v : List Atm} (hv : mayL v = true) : joinSt (setS a n v) (setS b n v) = setS (joinSt a b) n v := by
  have ma := may_set ha n v
  have mb := may_set hb n v
  have mj := may_join ha hb
  have da : (setS a n v).dead = false := by unfold setS; rw [h1]; rfl
  have db : (setS b n v).dead = false := by unfold setS; rw [h2]; rfl
  have dj : (joinSt a b).dead = false := by rw [join_dead, h1]; rfl
  have la : (setS a n v).ls = a.ls := by unfold setS; rw [h1]; rfl
  have lb : (setS b n v).ls = b.ls := by unfold setS; rw [h2]; rfl
  have lj : (setS (joinSt a b) n v).ls = (joinSt a b).ls := by unfold setS; rw [dj]; rfl
  refine sta_ext (may_join ma mb) (may_set mj n v) (by rw [join_dead, da]; unfold setS; rw [dj]; rfl) (fun m => ?_) (fun x => ?_)
  · rw [getV_join ma mb da db, get_set ha h1, get_set hb h2, get_set mj dj]
    by_cases e : n = m
    · rw [if_pos e, if_pos e, if_pos e]
      show some (norm (norm v ++ norm v)) = some (norm v)
      rw [norm_may hv]
      have : norm (v ++ v) = norm v := norm_congr fun z _ => by simp
      rw [this, norm_may hv]
    · rw [if_neg e, if_neg e, if_neg e, getV_join ha hb h1 h2]
  · rw [getL_join ma mb da db, la, lb, lj, getL_join ha hb h1 h2]
end M
end Go.Proofs.YtbaaeobdjiglgaaGreat
