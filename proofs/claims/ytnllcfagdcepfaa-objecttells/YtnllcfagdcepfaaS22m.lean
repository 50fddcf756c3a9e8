/-
  What the law of a renamed join needs: as mathematics, and of stores over a shape's box of its own. No conditions.
-/
import Derived.Test.YtnllcfagdcepfaaS20
import Derived.Test.YtnllcfagdcepfaaS21m
import Derived.Test.YtnllcfagdcepfaaS16
set_option linter.unusedVariables false
set_option linter.unusedSimpArgs false
namespace Go.Proofs.Ytnllcfagdcepfaa
open Go.RowKit Go.Sort
namespace M
theorem ren_if {a : Shp} (k : Int) (ha : mayS a = true) : (if mayS a then renS a k else zeroS) = renS a k := by rw [ha]; rfl
structure RenFacts (a b j r s : Shp) (k : Int) : Prop where
  ra : (if mayS a then renS a k else zeroS) = r
  rb : (if mayS b then renS b k else zeroS) = s
  ab : (if mayS a && mayS b then joinS a b else zeroS) = j
  jk : (if mayS j then renS j k else zeroS) = renS j k
  rs : (if mayS r && mayS s then joinS r s else zeroS) = joinS r s
  rk : (if mayS r then renS r k else zeroS) = renS r k
  Kj : Sm 100000 j
  Kjk : Sm 100000 (renS j k)
  Kr : Sm 100000 r
  Ks : Sm 100000 s
  Krk : Sm 100000 (renS r k)
  s1 : sameS (renS j k) (joinS r s) = true
  s2 : sameS (renS r k) r = true
  may : mayS r = true ∧ mayS s = true
theorem renFacts {a b : Shp} {k : Int} (sa : smallB a = true) (sb : smallB b = true) (ha : mayS a = true) (hb : mayS b = true) : RenFacts a b (joinS a b) (renS a k) (renS b k) k := by
  have mj : mayS (joinS a b) = true := may_joinS _ _
  have k1 : Sm 100000 (renS a k) := sm_mono (sm_ren (small_sm sa) k) (by decide)
  exact ⟨ren_if k ha, ren_if k hb, join_if ha hb, ren_if k mj, join_if (may_renS ha k) (may_renS hb k), ren_if k (may_renS ha k),
    sm_two sa sb, sm_ren (sm_two sa sb) k, k1, sm_mono (sm_ren (small_sm sb) k) (by decide), sm_ren k1 k,
    by rw [ren_join]; exact sameS_self _, by rw [ren_again]; exact sameS_self _, may_renS ha k, may_renS hb k⟩
end M
theorem box_set1 {w : World} {g p : Nat} {T : TypeId} {cs : Array Value} (h : w.heap[g]? = some (.cells cs T (0, 0))) (u : Value) :
    (w.setCell ⟨g, p, none⟩ u).heap[g]? = some (.cells (cs.setIfInBounds p u) T (0, 0)) := by
  show (w.heap.modify g _)[g]? = _
  rw [Array.getElem?_modify, if_pos rfl, h]
  rfl
/-- the two places of a block of two, written over -/
theorem box_set2 {w : World} {g : Nat} {T : TypeId} {x0 x1 : Value} (h : w.heap[g]? = some (.cells #[x0, x1] T (0, 0))) (u0 u1 : Value) :
    ((w.setCell ⟨g, 0, none⟩ u0).setCell ⟨g, 1, none⟩ u1).heap[g]? = some (.cells #[u0, u1] T (0, 0)) := box_set1 (box_set1 h u0) u1
theorem box_off {w : World} {g b : Nat} (h : b ≠ g) (u0 u1 : Value) : ((w.setCell ⟨g, 0, none⟩ u0).setCell ⟨g, 1, none⟩ u1).heap[b]? = w.heap[b]? := by
  rw [set_blk _ _ _ _ _ h, set_blk _ _ _ _ _ h]
/-- stores over a box of two slices leave a shape as it is: its fields' names lie elsewhere -/
theorem ShAt.off2 {w : World} {v : Value} {s : M.Shp} {g : Nat} {T : TypeId} {a0 a1 : Option Addr} {n0 n1 c0 c1 : Nat} (h : ShAt w v s) (hz : w.heap[g]? = some (.cells #[.slice a0 n0 c0, .slice a1 n1 c1] T (0, 0))) (u0 u1 : Value) :
    ShAt ((w.setCell ⟨g, 0, none⟩ u0).setCell ⟨g, 1, none⟩ u1) v s := by
  obtain ⟨z0, z1, _⟩ := cells2 hz
  have keep : ∀ (v : Value) (l : List M.Atm), AtAt w v l → AtAt ((w.setCell ⟨g, 0, none⟩ u0).setCell ⟨g, 1, none⟩ u1) v l := fun v l h =>
    (h.setn z0 (noInt_v _ _ _)).setn (cell_set_ne z1 (by omega)) (noInt_v _ _ _)
  obtain ⟨vf, vp, rfl, ⟨R, hR, h0, a, cap, rfl, h1⟩, hp⟩ := h
  refine ⟨_, _, rfl, ⟨R, hR, fun x hx => keep _ _ (h0 x hx), a, cap, rfl, ?_⟩, keep _ _ hp⟩
  rcases h1 with h1 | ⟨b, o, rfl, hlt, hr, hc⟩
  · exact .inl h1
  · refine .inr ⟨b, o, rfl, by simpa [World.setCell] using hlt, hr, fun i hi => ?_⟩
    have hne : b ≠ g := fun e => by
      subst e
      have t := (hc i hi).1
      rw [Lib.cell_of_heap hz] at t
      match hq : o + i * 3 with
      | 0 => rw [hq] at t; simp at t
      | 1 => rw [hq] at t; simp at t
      | n + 2 => rw [hq] at t; simp at t
    have m : ∀ q, ((w.setCell ⟨g, 0, none⟩ u0).setCell ⟨g, 1, none⟩ u1).cell? ⟨b, q, none⟩ = w.cell? ⟨b, q, none⟩ := fun q => by
      rw [World.cell?_setCell_other _ _ _ _ (fun e => hne (Addr.mk.inj e).1.symm), World.cell?_setCell_other _ _ _ _ (fun e => hne (Addr.mk.inj e).1.symm)]
    obtain ⟨t1, t2, t3⟩ := hc i hi
    exact ⟨by rw [m]; exact t1, by rw [m]; exact t2, by rw [m]; exact t3⟩
end Go.Proofs.Ytnllcfagdcepfaa
