/-
  States as mathematics: variables by name, objects by atom; what may be, what is set and put, joins and what lies within. Nothing of the program's code is walked here. No conditions.
-/
import Derived.Test.YtbaaeobdjiglgaaGreatT1
import Derived.Test.YtbaaeobdjiglgaaGreatS1
set_option linter.unusedVariables false
namespace Go.Proofs.YtbaaeobdjiglgaaGreat
namespace M
def keyN : Key ByteArray := ⟨ltN, ltN_irrefl, ltN_trans, ltN_tri⟩
theorem ltA_irr (a : Atm) : ltA a a = false := by simp [ltA]
theorem ltA_tr {a b c : Atm} (h1 : ltA a b = true) (h2 : ltA b c = true) : ltA a c = true := by
  simp only [ltA, decide_eq_true_eq] at *; omega
theorem ltA_tri' {a b : Atm} (h1 : ltA a b = false) (h2 : ltA b a = false) : a = b := by
  simp only [ltA, decide_eq_false_iff_not] at *
  obtain ⟨ak, an⟩ := a
  obtain ⟨bk, bn⟩ := b
  simp only at h1 h2
  have e1 : ak = bk := by omega
  have e2 : an = bn := by omega
  rw [e1, e2]
def keyA : Key Atm := ⟨ltA, ltA_irr, ltA_tr, ltA_tri'⟩
instance {κ ν : Type} (o : Key κ) (l : List (κ × ν)) : Decidable (RisK o l) := inferInstanceAs (Decidable (List.Pairwise _ _))
structure Sta where
  dead : Bool
  vs : List (ByteArray × List Atm)
  ls : List (Atm × Shp)
  deriving DecidableEq
def nul : List Atm := [⟨0, 0⟩]
def placeB (x : Atm) : Bool := decide (x.k = 4 ∨ x.k = 5) && decide (0 ≤ x.n)
def maySt (s : Sta) : Bool := decide (RisK keyN s.vs) && s.vs.all (fun x => mayL x.2) && decide (RisK keyA s.ls) && s.ls.all (fun x => placeB x.1 && mayS x.2) && (!s.dead || (s.vs.isEmpty && s.ls.isEmpty))
structure MaySt (s : Sta) : Prop where
  vr : RisK keyN s.vs
  vm : ∀ n v, getK s.vs n = some v → mayL v = true
  lr : RisK keyA s.ls
  lm : ∀ x p, getK s.ls x = some p → placeB x = true ∧ mayS p = true
  dd : s.dead = true → s.vs = [] ∧ s.ls = []
theorem maySt_iff (s : Sta) : maySt s = true ↔ MaySt s := by
  unfold maySt
  simp only [Bool.and_eq_true, decide_eq_true_eq, List.all_eq_true, Bool.or_eq_true, Bool.not_eq_true', List.isEmpty_iff]
  constructor
  · rintro ⟨⟨⟨⟨h1, h2⟩, h3⟩, h4⟩, h5⟩
    exact ⟨h1, fun n v h => h2 _ (getK_mem h), h3, fun x p h => h4 _ (getK_mem h), fun h => by rcases h5 with h5 | h5; · rw [h] at h5; cases h5
                                                                                               exact h5⟩
  · rintro ⟨h1, h2, h3, h4, h5⟩
    refine ⟨⟨⟨⟨h1, fun x hx => h2 x.1 x.2 (getK_of_mem keyN h1 hx)⟩, h3⟩, fun x hx => h4 x.1 x.2 (getK_of_mem keyA h3 hx)⟩, ?_⟩
    cases h : s.dead with
    | false => exact .inl rfl
    | true => exact .inr (h5 h)
def varS (s : Sta) (n : ByteArray) : List Atm := (getK s.vs n).getD nul
def zeroSt : Sta := ⟨false, [], []⟩
def setS (s : Sta) (n : ByteArray) (v : List Atm) : Sta := if s.dead then s else ⟨false, putK keyN n (norm v) s.vs, s.ls⟩
def putS (s : Sta) (x : Atm) (p : Shp) : Sta := if s.dead then s else ⟨false, s.vs, putK keyA x p s.ls⟩
def varJ (p q : Option (List Atm)) : List Atm := norm (p.getD nul ++ q.getD nul)
def locJ : Option Shp → Option Shp → Shp
  | some x, some y => joinS x y
  | some x, none => x
  | none, some y => y
  | none, none => zeroS
def cmbV (p q : Option (List Atm)) : Option (List Atm) := (both2 p q).map fun z => varJ z.1 z.2
def cmbL (p q : Option Shp) : Option Shp := (both2 p q).map fun z => locJ z.1 z.2
def joinSt (a b : Sta) : Sta := if a.dead then b else if b.dead then a else ⟨false, joinK keyN varJ a.vs b.vs, joinK keyA locJ a.ls b.ls⟩
theorem getV_join {a b : Sta} (ha : MaySt a) (hb : MaySt b) (h1 : a.dead = false) (h2 : b.dead = false) (n : ByteArray) : getK (joinSt a b).vs n = cmbV (getK a.vs n) (getK b.vs n) := by
  unfold joinSt; rw [h1, h2]; exact get_joinK keyN n ha.vr hb.vr
theorem getL_join {a b : Sta} (ha : MaySt a) (hb : MaySt b) (h1 : a.dead = false) (h2 : b.dead = false) (x : Atm) : getK (joinSt a b).ls x = cmbL (getK a.ls x) (getK b.ls x) := by
  unfold joinSt; rw [h1, h2]; exact get_joinK keyA x ha.lr hb.lr
theorem join_dead {a b : Sta} : (joinSt a b).dead = (a.dead && b.dead) := by
  unfold joinSt
  cases h1 : a.dead with
  | true => simp
  | false =>
    cases h2 : b.dead with
    | true => simp [h1]
    | false => simp
theorem norm_congr {a b : List Atm} (h : ∀ z, okA z = true → (z ∈ a ↔ z ∈ b)) : norm a = norm b :=
  norm_eq (norm_rising a) fun z => by
    rw [mem_norm]
    constructor
    · rintro ⟨h1, h2⟩; exact ⟨(h z h2).1 h1, h2⟩
    · rintro ⟨h1, h2⟩; exact ⟨(h z h2).2 h1, h2⟩
theorem cmbV_comm (p q : Option (List Atm)) : cmbV p q = cmbV q p := by
  cases p <;> cases q <;> simp [cmbV, both2, varJ]
  all_goals exact norm_congr fun z _ => by simp only [List.mem_append, or_comm]
theorem joinS_self {x : Shp} (h : mayS x = true) : joinS x x = x := by
  have h1 := joinS_left (b := x) h
  have h2 := joinS_least h h h (withinS_refl x h) (withinS_refl x h)
  have := bothS h (may_joinS x x)
  rw [h1, h2] at this
  exact (of_decide_eq_true this.symm).symm
theorem cmbL_comm (p q : Option Shp) : cmbL p q = cmbL q p := by
  cases p <;> cases q <;> simp [cmbL, both2, locJ]
  exact joinS_comm _ _
theorem cmbV_again (p q : Option (List Atm)) : cmbV (cmbV p q) p = cmbV p q := by
  cases p <;> cases q <;> simp [cmbV, both2, varJ]
  all_goals exact norm_congr fun z hz => by simp only [List.mem_append, mem_norm, hz, and_true]; constructor <;> (intro h; first | (rcases h with (h | h) | h <;> simp [h]) | (rcases h with h | h <;> simp [h]))
theorem cmbV_assoc (p q r : Option (List Atm)) : cmbV (cmbV p q) r = cmbV p (cmbV q r) := by
  cases p <;> cases q <;> cases r <;> simp [cmbV, both2, varJ]
  all_goals exact norm_congr fun z hz => by simp only [List.mem_append, mem_norm, hz, and_true]; constructor <;> (intro h; first | (rcases h with (h | h) | h <;> simp [h]) | (rcases h with h | h | h <;> simp [h]) | (rcases h with h | h <;> simp [h]))
theorem cmbL_assoc (p q r : Option Shp) : cmbL (cmbL p q) r = cmbL p (cmbL q r) := by
  cases p <;> cases q <;> cases r <;> simp [cmbL, both2, locJ]
  exact joinS_assoc _ _ _
theorem cmbL_again {p : Option Shp} (q : Option Shp) (h : ∀ x, p = some x → mayS x = true) : cmbL (cmbL p q) p = cmbL p q := by
  cases p with
  | none => cases q <;> simp [cmbL, both2, locJ]
  | some x =>
    cases q with
    | none => simp [cmbL, both2, locJ]; exact joinS_self (h x rfl)
    | some y => simp [cmbL, both2, locJ]; exact joinS_again _ _
theorem sta_ext {a b : Sta} (ha : MaySt a) (hb : MaySt b) (hd : a.dead = b.dead) (h1 : ∀ n, getK a.vs n = getK b.vs n) (h2 : ∀ x, getK a.ls x = getK b.ls x) : a = b := by
  have e1 := risK_ext keyN ha.vr hb.vr h1
  have e2 := risK_ext keyA ha.lr hb.lr h2
  cases a; cases b; simp only at hd e1 e2; rw [hd, e1, e2]
theorem may_join {a b : Sta} (ha : MaySt a) (hb : MaySt b) : MaySt (joinSt a b) := by
  cases h1 : a.dead with
  | true => unfold joinSt; rw [if_pos h1]; exact hb
  | false =>
    cases h2 : b.dead with
    | true => unfold joinSt; rw [h1, if_neg (by decide), if_pos h2]; exact ha
    | false =>
      refine ⟨?_, fun n v h => ?_, ?_, fun x p h => ?_, fun h => ?_⟩
      · unfold joinSt; rw [h1, h2]; exact ris_joinK keyN ha.vr hb.vr
      · rw [getV_join ha hb h1 h2] at h
        unfold cmbV at h
        obtain ⟨z, _, rfl⟩ := Option.map_eq_some_iff.1 h
        exact may_norm _
      · unfold joinSt; rw [h1, h2]; exact ris_joinK keyA ha.lr hb.lr
      · rw [getL_join ha hb h1 h2] at h
        cases hp : getK a.ls x with
        | none =>
          cases hq : getK b.ls x with
          | none => rw [hp, hq] at h; simp [cmbL, both2] at h
          | some y => rw [hp, hq] at h; simp [cmbL, both2, locJ] at h; rw [← h]; exact hb.lm x y hq
        | some u =>
          cases hq : getK b.ls x with
          | none => rw [hp, hq] at h; simp [cmbL, both2, locJ] at h; rw [← h]; exact ha.lm x u hp
          | some y => rw [hp, hq] at h; simp [cmbL, both2, locJ] at h; rw [← h]; exact ⟨(ha.lm x u hp).1, may_joinS _ _⟩
      · rw [join_dead, h1] at h; cases h
theorem joinSt_comm {a b : Sta} (ha : MaySt a) (hb : MaySt b) : joinSt a b = joinSt b a := by
  cases h1 : a.dead with
  | true =>
    cases h2 : b.dead with
    | true =>
      have e1 := ha.dd h1
      have e2 := hb.dd h2
      unfold joinSt; rw [if_pos h1, if_pos h2]
      cases a; cases b; simp only at *; rw [h1, h2, e1.1, e1.2, e2.1, e2.2]
    | false => unfold joinSt; rw [if_pos h1, h2, if_neg (by decide), if_pos h1]
  | false =>
    cases h2 : b.dead with
    | true => unfold joinSt; rw [h1, if_neg (by decide), if_pos h2, if_pos h2]
    | false =>
      refine sta_ext (may_join ha hb) (may_join hb ha) (by rw [join_dead, join_dead, Bool.and_comm]) (fun n => ?_) (fun x => ?_)
      · rw [getV_join ha hb h1 h2, getV_join hb ha h2 h1, cmbV_comm]
      · rw [getL_join ha hb h1 h2, getL_join hb ha h2 h1, cmbL_comm]
end M
end Go.Proofs.YtbaaeobdjiglgaaGreat
