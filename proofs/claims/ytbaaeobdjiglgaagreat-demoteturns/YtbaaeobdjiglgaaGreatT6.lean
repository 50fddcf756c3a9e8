/-
  States as mathematics: their texts; few variables, objects, properties, atoms, and how many there are in a join. Nothing of the program's code is walked here. No conditions.
-/
import Derived.Test.YtbaaeobdjiglgaaGreatT4
import Derived.Test.YtbaaeobdjiglgaaGreatB1
set_option linter.unusedVariables false
namespace Go.Proofs.YtbaaeobdjiglgaaGreat
namespace M
def fldT (f : Fld) : List UInt8 := 32 :: (f.nm.data.toList ++ (if f.su then [33] else [63]) ++ [40] ++ textB f.vs ++ [41])
def varT (b : ByteArray × List Atm) : List UInt8 := b.1.data.toList ++ [58, 32] ++ textB b.2 ++ [10]
def locT (z : Atm × Shp) : List UInt8 := textB [z.1] ++ [58] ++ z.2.fs.flatMap fldT ++ [32, 112, 114, 111, 116, 111, 32, 40] ++ textB z.2.pr ++ [41]
def textSt (s : Sta) : List UInt8 := if s.dead then [100, 101, 97, 100, 10] else s.vs.flatMap varT ++ s.ls.flatMap (fun z => locT z ++ [10])
theorem flat_step {α : Type} (f : α → List UInt8) {l : List α} {j : Nat} (h : j < l.length) : (l.take (j + 1)).flatMap f = (l.take j).flatMap f ++ f l[j] := by
  rw [List.take_succ_eq_append_getElem h, List.flatMap_append]; simp
theorem flat_full {α : Type} (f : α → List UInt8) {l : List α} {j : Nat} (h : l.length ≤ j) : (l.take j).flatMap f = l.flatMap f := by rw [List.take_of_length_le h]
/-! Few. -/
def smallSt (s : Sta) : Bool := decide (s.vs.length ≤ 40) && decide (s.ls.length ≤ 40) && s.vs.all (fun b => decide (b.2.length ≤ 40)) && s.ls.all (fun z => decide (z.2.fs.length ≤ 40) && decide (z.2.pr.length ≤ 40) && z.2.fs.all (fun f => decide (f.vs.length ≤ 40)))
structure SmSt (K : Nat) (s : Sta) : Prop where
  vl : s.vs.length ≤ K
  vv : ∀ z ∈ s.vs, z.2.length ≤ K
  ll : s.ls.length ≤ K
  lv : ∀ z ∈ s.ls, Sm K z.2
theorem small_smSt {s : Sta} (h : smallSt s = true) : SmSt 40 s := by
  unfold smallSt at h
  simp only [Bool.and_eq_true, decide_eq_true_eq, List.all_eq_true] at h
  obtain ⟨⟨⟨h1, h2⟩, h3⟩, h4⟩ := h
  exact ⟨h1, h3, h2, fun z hz => ⟨(h4 z hz).1.1, (h4 z hz).2, (h4 z hz).1.2⟩⟩
theorem smSt_mono {K L : Nat} {s : Sta} (h : SmSt K s) (hl : K ≤ L) : SmSt L s := ⟨Nat.le_trans h.vl hl, fun z hz => Nat.le_trans (h.vv z hz) hl, Nat.le_trans h.ll hl, fun z hz => sm_mono (h.lv z hz) hl⟩
theorem smSt_zero (K : Nat) : SmSt K zeroSt := ⟨Nat.zero_le _, (fun z hz => by cases hz), Nat.zero_le _, (fun z hz => by cases hz)⟩
section
variable {κ ν : Type} [DecidableEq κ] (o : Key κ)
theorem pairK_length : ∀ (a b : List (κ × ν)), (pairK o a b).length ≤ a.length + b.length
  | [], b => by unfold pairK; simp
  | x :: a, [] => by unfold pairK; simp
  | x :: a, y :: b => by
    unfold pairK
    split
    · have := pairK_length a b; simp only [List.length_cons]; omega
    · split
      · have := pairK_length a (y :: b); simp only [List.length_cons] at *; omega
      · have := pairK_length (x :: a) b; simp only [List.length_cons] at *; omega
termination_by a b => a.length + b.length
theorem pairK_from {z : κ × Option ν × Option ν} : ∀ {a b : List (κ × ν)}, z ∈ pairK o a b → (∀ v, z.2.1 = some v → ∃ k, (k, v) ∈ a) ∧ (∀ v, z.2.2 = some v → ∃ k, (k, v) ∈ b)
  | [], b, h => by
    unfold pairK at h
    obtain ⟨y, hy, rfl⟩ := List.mem_map.1 h
    exact ⟨fun v e => (by cases e), fun v e => ⟨y.1, by cases e; exact hy⟩⟩
  | x :: a, [], h => by
    unfold pairK at h
    obtain ⟨y, hy, rfl⟩ := List.mem_map.1 h
    exact ⟨fun v e => ⟨y.1, by cases e; exact hy⟩, fun v e => (by cases e)⟩
  | x :: a, y :: b, h => by
    unfold pairK at h
    split at h
    · rcases List.mem_cons.1 h with rfl | h
      · exact ⟨fun v e => ⟨x.1, by cases e; exact List.mem_cons_self⟩, fun v e => ⟨y.1, by cases e; exact List.mem_cons_self⟩⟩
      · obtain ⟨h1, h2⟩ := pairK_from h
        exact ⟨fun v e => (h1 v e).imp fun k hk => List.mem_cons_of_mem _ hk, fun v e => (h2 v e).imp fun k hk => List.mem_cons_of_mem _ hk⟩
    · split at h
      · rcases List.mem_cons.1 h with rfl | h
        · exact ⟨fun v e => ⟨x.1, by cases e; exact List.mem_cons_self⟩, fun v e => (by cases e)⟩
        · obtain ⟨h1, h2⟩ := pairK_from h
          exact ⟨fun v e => (h1 v e).imp fun k hk => List.mem_cons_of_mem _ hk, h2⟩
      · rcases List.mem_cons.1 h with rfl | h
        · exact ⟨fun v e => (by cases e), fun v e => ⟨y.1, by cases e; exact List.mem_cons_self⟩⟩
        · obtain ⟨h1, h2⟩ := pairK_from h
          exact ⟨h1, fun v e => (h2 v e).imp fun k hk => List.mem_cons_of_mem _ hk⟩
termination_by a b => a.length + b.length
end
theorem smSt_join {K : Nat} {a b : Sta} (hK : 1 ≤ K) (ha : SmSt K a) (hb : SmSt K b) : SmSt (K + K) (joinSt a b) := by
  unfold joinSt
  split
  · exact smSt_mono hb (by omega)
  · split
    · exact smSt_mono ha (by omega)
    · have len : ∀ (p : Option (List Atm)), (∀ v, p = some v → v.length ≤ K) → (p.getD nul).length ≤ K := fun p hp => by
        cases p with
        | none => exact hK
        | some v => exact hp v rfl
      refine ⟨?_, fun z hz => ?_, ?_, fun z hz => ?_⟩
      · show (List.map _ _).length ≤ _
        rw [List.length_map]
        have := pairK_length keyN a.vs b.vs
        have := ha.vl; have := hb.vl; omega
      · obtain ⟨w, hw, rfl⟩ := List.mem_map.1 hz
        obtain ⟨h1, h2⟩ := pairK_from keyN hw
        have e1 := len w.2.1 fun v e => by obtain ⟨k, hk⟩ := h1 v e; exact ha.vv _ hk
        have e2 := len w.2.2 fun v e => by obtain ⟨k, hk⟩ := h2 v e; exact hb.vv _ hk
        show (norm _).length ≤ _
        refine Nat.le_trans (norm_length _) ?_
        rw [List.length_append]; omega
      · show (List.map _ _).length ≤ _
        rw [List.length_map]
        have := pairK_length keyA a.ls b.ls
        have := ha.ll; have := hb.ll; omega
      · obtain ⟨⟨x, p, q⟩, hw, rfl⟩ := List.mem_map.1 hz
        obtain ⟨h1, h2⟩ := pairK_from keyA hw
        show Sm (K + K) (locJ p q)
        cases p with
        | none =>
          cases q with
          | none => exact ⟨Nat.zero_le _, (fun f hf => by cases hf), Nat.zero_le _⟩
          | some y => obtain ⟨k, hk⟩ := h2 y rfl; exact sm_mono (hb.lv _ hk) (by omega)
        | some u =>
          obtain ⟨k, hk⟩ := h1 u rfl
          cases q with
          | none => exact sm_mono (ha.lv _ hk) (by omega)
          | some y => obtain ⟨k', hk'⟩ := h2 y rfl; exact sm_join (ha.lv _ hk) (hb.lv _ hk')
theorem smSt_set {K L : Nat} {s : Sta} (h : SmSt K s) (hK : K + 1 ≤ L) (n : ByteArray) {v : List Atm} (hv : v.length ≤ L) : SmSt L (setS s n v) := by
  unfold setS
  split
  · exact smSt_mono h (by omega)
  · refine ⟨Nat.le_trans (putK_length keyN n (norm v) s.vs) (by have := h.vl; omega), fun z hz => ?_, Nat.le_trans h.ll (by omega), fun z hz => sm_mono (h.lv z hz) (by omega)⟩
    rcases mem_putK keyN hz with e | e
    · rw [e]; exact Nat.le_trans (norm_length v) hv
    · exact Nat.le_trans (h.vv z e) (by omega)
theorem smSt_put {K L : Nat} {s : Sta} (h : SmSt K s) (hK : K + 1 ≤ L) (x : Atm) {p : Shp} (hp : Sm L p) : SmSt L (putS s x p) := by
  unfold putS
  split
  · exact smSt_mono h (by omega)
  · refine ⟨Nat.le_trans h.vl (by omega), fun z hz => Nat.le_trans (h.vv z hz) (by omega), Nat.le_trans (putK_length keyA x p s.ls) (by have := h.ll; omega), fun z hz => ?_⟩
    rcases mem_putK keyA hz with e | e
    · rw [e]; exact hp
    · exact sm_mono (h.lv z e) (by omega)
end M
end Go.Proofs.YtbaaeobdjiglgaaGreat
