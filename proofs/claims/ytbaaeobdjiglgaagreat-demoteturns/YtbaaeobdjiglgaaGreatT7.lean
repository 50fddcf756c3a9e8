/-
  A site's newest object grows old, and a new one is made, as mathematics. Nothing of the program's code is walked here. No conditions.
-/
import Derived.Test.YtbaaeobdjiglgaaGreatT4
set_option linter.unusedVariables false
set_option linter.unusedSimpArgs false
namespace Go.Proofs.YtbaaeobdjiglgaaGreat
namespace M
def agedV (vs : List (ByteArray × List Atm)) (k : Int) : List (ByteArray × List Atm) := vs.map fun z => (z.1, rename z.2 k)
def dropL (ls : List (Atm × Shp)) (k : Int) : List (Atm × Shp) := (ls.filter fun z => decide (z.1 ≠ ⟨4, k⟩)).map fun z => (z.1, renS z.2 k)
/-- all renamed, and without the newest object -/
def renamedSt (s : Sta) (k : Int) : Sta := ⟨s.dead, agedV s.vs k, dropL s.ls k⟩
def ageSt (s : Sta) (k : Int) : Sta := match getK s.ls ⟨4, k⟩ with
  | none => renamedSt s k
  | some o => putS (renamedSt s k) ⟨5, k⟩ (locJ (some (renS o k)) ((getK s.ls ⟨5, k⟩).map (renS · k)))
def allocSt (s : Sta) (n : ByteArray) (k : Int) (o : Shp) : Sta := setS (putS (ageSt s k) ⟨4, k⟩ (renS o k)) n [⟨4, k⟩]
theorem get_agedV (vs : List (ByteArray × List Atm)) (k : Int) (n : ByteArray) : getK (agedV vs k) n = (getK vs n).map (rename · k) := getK_map (fun _ v => rename v k) vs n
theorem getK_filter {κ ν : Type} [DecidableEq κ] (k q : κ) : ∀ l : List (κ × ν), getK (l.filter fun z => decide (z.1 ≠ k)) q = if q = k then none else getK l q
  | [] => by simp [getK]
  | x :: r => by
    have ih := getK_filter k q r
    by_cases h : x.1 = k
    · rw [List.filter_cons_of_neg (by simp [h]), ih]
      by_cases hq : q = k
      · rw [if_pos hq, if_pos hq]
      · rw [if_neg hq, if_neg hq]
        unfold getK
        rw [if_neg (by rw [h]; exact fun e => hq e.symm)]
        cases r <;> rfl
    · rw [List.filter_cons_of_pos (by simp [h])]
      by_cases hq : q = k
      · rw [if_pos hq]
        unfold getK
        rw [if_neg (by rw [hq]; exact h), ih, if_pos hq]
      · rw [if_neg hq]
        rw [if_neg hq] at ih
        show (if x.1 = q then some x.2 else getK (List.filter _ r) q) = (if x.1 = q then some x.2 else getK r q)
        rw [ih]
theorem get_dropL (ls : List (Atm × Shp)) (k : Int) (y : Atm) : getK (dropL ls k) y = if y = ⟨4, k⟩ then none else (getK ls y).map (renS · k) := by
  unfold dropL
  rw [getK_map (fun _ p => renS p k), getK_filter]
  split <;> rfl
theorem ris_agedV {vs : List (ByteArray × List Atm)} (k : Int) (h : RisK keyN vs) : RisK keyN (agedV vs k) := by unfold RisK agedV; rw [List.pairwise_map]; exact h
theorem ris_dropL {ls : List (Atm × Shp)} (k : Int) (h : RisK keyA ls) : RisK keyA (dropL ls k) := by unfold RisK dropL; rw [List.pairwise_map]; exact List.Pairwise.filter _ h
theorem map_some {α β : Type} {f : α → β} {o : Option α} {y : β} (h : o.map f = some y) : ∃ x, o = some x ∧ f x = y := by
  cases o with
  | none => cases h
  | some x => exact ⟨x, rfl, by simpa using h⟩
theorem may_renamedSt {s : Sta} (h : MaySt s) (k : Int) : MaySt (renamedSt s k) where
  vr := ris_agedV k h.vr
  vm n v e := by
    have e : getK (agedV s.vs k) n = some v := e
    rw [get_agedV] at e
    obtain ⟨x, _, rfl⟩ := map_some e
    exact may_norm _
  lr := ris_dropL k h.lr
  lm x p e := by
    have e : getK (dropL s.ls k) x = some p := e
    rw [get_dropL] at e
    split at e
    · cases e
    · obtain ⟨q, hq, rfl⟩ := map_some e
      exact ⟨(h.lm x q hq).1, may_renS (h.lm x q hq).2 k⟩
  dd e := by
    have e : s.dead = true := e
    obtain ⟨h1, h2⟩ := h.dd e
    show agedV s.vs k = [] ∧ dropL s.ls k = []
    rw [h1, h2]
    exact ⟨rfl, rfl⟩
theorem ne45 (k : Int) : (⟨5, k⟩ : Atm) ≠ ⟨4, k⟩ := fun e => by have := congrArg Atm.k e; simp at this
theorem place45 {k : Int} (hk : 0 ≤ k) : placeB ⟨4, k⟩ = true ∧ placeB ⟨5, k⟩ = true := by simp [placeB, hk]
theorem may_locJ {p q : Shp} {o : Option Shp} (hp : mayS p = true) (ho : ∀ x, o = some x → mayS x = true) : mayS (locJ (some p) o) = true := by
  cases o with
  | none => exact hp
  | some x => exact may_joinS _ _
theorem may_age {s : Sta} (h : MaySt s) {k : Int} (hk : 0 ≤ k) : MaySt (ageSt s k) := by
  unfold ageSt
  cases e : getK s.ls ⟨4, k⟩ with
  | none => exact may_renamedSt h k
  | some o =>
    refine may_put (may_renamedSt h k) (place45 hk).2 (may_locJ (q := o) (may_renS (h.lm _ _ e).2 k) fun x hx => ?_)
    obtain ⟨q, hq, rfl⟩ := map_some hx
    exact may_renS (h.lm _ _ hq).2 k
theorem age_dead (s : Sta) (k : Int) : (ageSt s k).dead = s.dead := by
  unfold ageSt
  cases getK s.ls ⟨4, k⟩ with
  | none => rfl
  | some o =>
    show (putS _ _ _).dead = _
    unfold putS
    split
    · rfl
    · rename_i h
      have h : ¬ s.dead = true := h
      simp at h
      rw [h]
theorem age_of_dead {s : Sta} (h : MaySt s) (k : Int) (hd : s.dead = true) : ageSt s k = s := by
  obtain ⟨h1, h2⟩ := h.dd hd
  obtain ⟨d, vs, ls⟩ := s
  simp only at h1 h2
  subst h1 h2
  rfl
theorem getV_age {s : Sta} (h : MaySt s) (k : Int) (n : ByteArray) : getK (ageSt s k).vs n = (getK s.vs n).map (rename · k) := by
  unfold ageSt
  cases getK s.ls ⟨4, k⟩ with
  | none => exact get_agedV _ _ _
  | some o =>
    show getK (putS _ _ _).vs n = _
    unfold putS
    split
    · exact get_agedV _ _ _
    · exact get_agedV _ _ _
/-- what the older objects are then -/
def oldO (s : Sta) (k : Int) : Option Shp := cmbL ((getK s.ls ⟨4, k⟩).map (renS · k)) ((getK s.ls ⟨5, k⟩).map (renS · k))
theorem getL_age {s : Sta} (h : MaySt s) (k : Int) (y : Atm) : getK (ageSt s k).ls y = if y = ⟨4, k⟩ then none else if y = ⟨5, k⟩ then oldO s k else (getK s.ls y).map (renS · k) := by
  cases hd : s.dead with
  | true =>
    rw [age_of_dead h k hd]
    unfold oldO
    rw [(h.dd hd).2]
    simp [getK, cmbL, both2]
  | false =>
    unfold ageSt oldO
    cases e : getK s.ls ⟨4, k⟩ with
    | none =>
      show getK (dropL s.ls k) y = _
      rw [get_dropL]
      by_cases h1 : y = ⟨4, k⟩
      · rw [if_pos h1, if_pos h1]
      · rw [if_neg h1, if_neg h1]
        by_cases h2 : y = ⟨5, k⟩
        · rw [if_pos h2, h2]
          cases getK s.ls ⟨5, k⟩ <;> rfl
        · rw [if_neg h2]
    | some o =>
      rw [get_put (may_renamedSt h k) hd]
      show (if (⟨5, k⟩ : Atm) = y then _ else getK (dropL s.ls k) y) = _
      rw [get_dropL]
      by_cases h1 : y = ⟨4, k⟩
      · rw [if_pos h1, if_pos h1, if_neg (by rw [h1]; exact ne45 k)]
      · rw [if_neg h1, if_neg h1]
        by_cases h2 : y = ⟨5, k⟩
        · rw [if_pos h2.symm, if_pos h2]
          cases getK s.ls ⟨5, k⟩ <;> rfl
        · rw [if_neg h2, if_neg (fun e => h2 e.symm)]
theorem ren_comm (a b : Int) (x : Atm) : ren a (ren b x) = ren b (ren a x) := by
  obtain ⟨k, n⟩ := x
  by_cases h0 : k = 4
  · by_cases h1 : n = a
    · by_cases h2 : n = b
      · simp [ren, h0, h1, ← h2]
      · subst h1; simp [ren, h0, h2]
    · by_cases h2 : n = b
      · subst h2; simp [ren, h0, h1]
      · simp [ren, h0, h1, h2]
  · simp [ren, h0]
theorem mem_rename2 (l : List Atm) (a b : Int) (z : Atm) : z ∈ rename (rename l a) b ↔ (∃ x ∈ l, ren b (ren a x) = z) ∧ okA z = true := by
  rw [mem_rename]
  constructor
  · rintro ⟨⟨x, hx, rfl⟩, h2⟩
    obtain ⟨⟨y, hy, rfl⟩, _⟩ := (mem_rename _ _ _).1 hx
    exact ⟨⟨y, hy, rfl⟩, h2⟩
  · rintro ⟨⟨x, hx, rfl⟩, h2⟩
    rw [ok_ren] at h2
    exact ⟨⟨_, (mem_rename _ _ _).2 ⟨⟨x, hx, rfl⟩, h2⟩, rfl⟩, by rw [ok_ren]; exact h2⟩
theorem rename_comm (l : List Atm) (a b : Int) : rename (rename l a) b = rename (rename l b) a :=
  rising_ext (norm_rising _) (norm_rising _) fun z => by
    rw [mem_rename2, mem_rename2]
    simp only [ren_comm a b]
theorem renS_comm (p : Shp) (a b : Int) : renS (renS p a) b = renS (renS p b) a := by
  unfold renS
  simp only [List.map_map]
  rw [rename_comm p.pr a b]
  congr 1
  refine List.map_congr_left fun f _ => ?_
  simp only [Function.comp, renF]
  rw [rename_comm f.vs a b]
theorem cmbL_ren (p q : Option Shp) (k : Int) : (cmbL p q).map (renS · k) = cmbL (p.map (renS · k)) (q.map (renS · k)) := by
  cases p <;> cases q <;> simp [cmbL, both2, locJ, ren_join]
theorem age_again {s : Sta} (h : MaySt s) {k : Int} (hk : 0 ≤ k) : ageSt (ageSt s k) k = ageSt s k := by
  have h1 := may_age h hk
  refine sta_ext (may_age h1 hk) h1 (by rw [age_dead]) (fun n => ?_) fun y => ?_
  · rw [getV_age h1, getV_age h]
    cases getK s.vs n with
    | none => rfl
    | some v => simp [rename_again]
  · rw [getL_age h1, getL_age h]
    by_cases h4 : y = ⟨4, k⟩
    · rw [if_pos h4, if_pos h4]
    · rw [if_neg h4, if_neg h4]
      by_cases h5 : y = ⟨5, k⟩
      · rw [if_pos h5, if_pos h5]
        unfold oldO
        rw [getL_age h, getL_age h, if_pos rfl, if_neg (ne45 k), if_pos rfl]
        unfold oldO
        simp only [Option.map_none, cmbL_ren, Option.map_map]
        have e : ((fun x => renS x k) ∘ fun x => renS x k) = fun x => renS x k := funext fun x => ren_again x k
        rw [e]
        cases cmbL (Option.map (fun x => renS x k) (getK s.ls ⟨4, k⟩)) (Option.map (fun x => renS x k) (getK s.ls ⟨5, k⟩)) <;> rfl
      · rw [if_neg h5, if_neg h5]
        cases getK s.ls y with
        | none => rfl
        | some v => simp [ren_again]
theorem age_turn {s : Sta} (h : MaySt s) {a b : Int} (ha : 0 ≤ a) (hb : 0 ≤ b) : ageSt (ageSt s a) b = ageSt (ageSt s b) a := by
  by_cases hab : a = b
  · rw [hab]
  have h1 := may_age h ha
  have h2 := may_age h hb
  have hk : ∀ (i j c d : Int), (⟨i, c⟩ : Atm) = ⟨j, d⟩ ↔ i = j ∧ c = d := fun i j c d => by simp
  refine sta_ext (may_age h1 hb) (may_age h2 ha) (by rw [age_dead, age_dead, age_dead, age_dead]) (fun n => ?_) fun y => ?_
  · rw [getV_age h1, getV_age h2, getV_age h, getV_age h]
    cases getK s.vs n with
    | none => rfl
    | some v => simp [rename_comm v a b]
  · have hba : ¬ b = a := fun e => hab e.symm
    have e : ((fun x => renS x b) ∘ fun x => renS x a) = ((fun x => renS x a) ∘ fun x => renS x b) := funext fun x => renS_comm x a b
    rw [getL_age h1, getL_age h2]
    unfold oldO
    simp only [getL_age h]
    unfold oldO
    by_cases y1 : y = ⟨4, a⟩
    · subst y1; simp [hk, hab, hba]
    · by_cases y2 : y = ⟨4, b⟩
      · subst y2; simp [hk, hab, hba]
      · by_cases y3 : y = ⟨5, a⟩
        · subst y3; simp [hk, hab, hba, cmbL_ren, e]
        · by_cases y4 : y = ⟨5, b⟩
          · subst y4; simp [hk, hab, hba, cmbL_ren, e]
          · simp [y1, y2, y3, y4, e]
/-- does a state speak of an atom? -/
def speaksSt (s : Sta) (x : Atm) : Bool := s.vs.any (fun z => has z.2 x) || s.ls.any (fun z => decide (z.1 = x) || has z.2.pr x || z.2.fs.any fun f => has f.vs x)
/-- a shape does not speak of it -/
def mute (p : Shp) (x : Atm) : Bool := !has p.pr x && p.fs.all fun f => !has f.vs x
theorem mute_ren (p : Shp) (k : Int) : mute (renS p k) ⟨4, k⟩ = true := by
  simp [mute, renS, renF, rename_has]
theorem ren_mute {p : Shp} {k : Int} (hm : mayS p = true) (h : mute p ⟨4, k⟩ = true) : renS p k = p := by
  obtain ⟨_, h2, h3⟩ := (mayS_iff p).1 hm
  simp only [mute, Bool.and_eq_true, Bool.not_eq_true', List.all_eq_true] at h
  unfold renS
  rw [rename_none k h3 h.1]
  have : p.fs.map (renF k) = p.fs := by
    refine (List.map_congr_left fun f hf => ?_).trans (List.map_id _)
    show renF k f = f
    unfold renF
    rw [rename_none k (h2 f hf) (h.2 f hf)]
  rw [this]
theorem speaks_iff {s : Sta} (h : MaySt s) (x : Atm) : speaksSt s x = false ↔ (∀ n v, getK s.vs n = some v → has v x = false) ∧ getK s.ls x = none ∧ ∀ y p, getK s.ls y = some p → mute p x = true := by
  unfold speaksSt
  simp only [Bool.or_eq_false_iff, List.any_eq_false, Bool.or_eq_true, decide_eq_true_eq, List.any_eq_true, not_or, Bool.not_eq_true, not_exists, not_and]
  constructor
  · rintro ⟨h1, h2⟩
    refine ⟨fun n v e => h1 _ (getK_mem e), getK_none fun z hz => (h2 z hz).1.1, fun y p e => ?_⟩
    obtain ⟨⟨_, a2⟩, a3⟩ := h2 _ (getK_mem e)
    simp only [mute, Bool.and_eq_true, Bool.not_eq_true', List.all_eq_true]
    exact ⟨a2, fun f hf => a3 f hf⟩
  · rintro ⟨h1, h2, h3⟩
    refine ⟨fun z hz => h1 z.1 z.2 (getK_of_mem keyN h.vr hz), fun z hz => ?_⟩
    have e := getK_of_mem keyA h.lr (k := z.1) (v := z.2) hz
    have m := h3 _ _ e
    simp only [mute, Bool.and_eq_true, Bool.not_eq_true', List.all_eq_true] at m
    exact ⟨⟨fun e2 => by (rw [e2, h2] at e; cases e), m.1⟩, fun f hf => m.2 f hf⟩
theorem mute_oldO {s : Sta} {k : Int} {p : Shp} (h : oldO s k = some p) : mute p ⟨4, k⟩ = true := by
  unfold oldO at h
  rw [← cmbL_ren] at h
  obtain ⟨q, _, rfl⟩ := map_some h
  exact mute_ren q k
theorem age_mute {s : Sta} (h : MaySt s) {k : Int} {y : Atm} {p : Shp} (e : getK (ageSt s k).ls y = some p) : mute p ⟨4, k⟩ = true := by
  rw [getL_age h] at e
  split at e
  · cases e
  · split at e
    · exact mute_oldO e
    · obtain ⟨q, _, rfl⟩ := map_some e
      exact mute_ren q k
theorem age_speaks {s : Sta} (h : MaySt s) {k : Int} (hk : 0 ≤ k) : speaksSt (ageSt s k) ⟨4, k⟩ = false := by
  rw [speaks_iff (may_age h hk)]
  refine ⟨fun n v e => ?_, by rw [getL_age h, if_pos rfl], fun y p e => age_mute h e⟩
  rw [getV_age h] at e
  obtain ⟨w, _, rfl⟩ := map_some e
  exact rename_has _ _
theorem age_none {s : Sta} (h : MaySt s) {k : Int} (hk : 0 ≤ k) (hs : speaksSt s ⟨4, k⟩ = false) : ageSt s k = s := by
  obtain ⟨h1, h2, h3⟩ := (speaks_iff h _).1 hs
  refine sta_ext (may_age h hk) h (age_dead s k) (fun n => ?_) fun y => ?_
  · rw [getV_age h]
    cases e : getK s.vs n with
    | none => rfl
    | some v => simp [rename_none k (h.vm n v e) (h1 n v e)]
  · rw [getL_age h]
    by_cases h4 : y = ⟨4, k⟩
    · rw [if_pos h4, h4, h2]
    · rw [if_neg h4]
      have hr : (getK s.ls y).map (renS · k) = getK s.ls y := by
        cases e : getK s.ls y with
        | none => rfl
        | some p => simp [ren_mute (h.lm y p e).2 (h3 y p e)]
      by_cases h5 : y = ⟨5, k⟩
      · rw [if_pos h5]
        unfold oldO
        rw [h2, ← h5, hr]
        cases getK s.ls y <;> rfl
      · rw [if_neg h5, hr]
theorem age_vlen (s : Sta) (k : Int) : (ageSt s k).vs.length = s.vs.length := by
  unfold ageSt
  cases getK s.ls ⟨4, k⟩ with
  | none => simp [renamedSt, agedV]
  | some o =>
    show (putS _ _ _).vs.length = _
    unfold putS
    split <;> simp [renamedSt, agedV]
end M
end Go.Proofs.YtbaaeobdjiglgaaGreat
