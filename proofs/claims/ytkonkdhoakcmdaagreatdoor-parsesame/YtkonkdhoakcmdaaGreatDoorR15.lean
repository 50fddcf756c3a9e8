/-
  The walk of a reader's function. Conditions: those that each fact names.
-/
import Derived.Test.YtkonkdhoakcmdaaGreatDoorR14
set_option linter.unusedVariables false
namespace Go.Proofs.YtkonkdhoakcmdaaGreatDoor
open Go.RowKit

def fnEnc (w0 : World) : M.Fn → Value → World → Prop := fun f v w => ∃ vp vb, v = .agg #[.string f.name, vp, vb] ∧ StrsAt w (Old w0) vp f.ps ∧ StmAt w (Old w0) vb f.body
abbrev zero3 : Obj := .cells #[.string ⟨#[]⟩, .slice none 0 0, .slice none 0 0] 56
abbrev put3 (W : World) (g : Nat) (c0 c1 c2 : Value) : World := ((W.setCell ⟨g, 0, none⟩ c0).setCell ⟨g, 1, none⟩ c1).setCell ⟨g, 2, none⟩ c2
theorem put3_at {W : World} {g : Nat} {T : TypeId} {v0 v1 v2 : Value} (h : W.heap[g]? = some (.cells #[v0, v1, v2] T (0, 0))) (c0 c1 c2 : Value) : (put3 W g c0 c1 c2).heap[g]? = some (.cells #[c0, c1, c2] T (0, 0)) := by
  have h0 : (W.setCell ⟨g, 0, none⟩ c0).heap[g]? = some (.cells #[c0, v1, v2] T (0, 0)) := heap_setCell_same _ _ _ _ _ _ h
  have h1 : ((W.setCell ⟨g, 0, none⟩ c0).setCell ⟨g, 1, none⟩ c1).heap[g]? = some (.cells #[c0, c1, v2] T (0, 0)) := heap_setCell_same _ _ _ _ _ _ h0
  have h2 : (put3 W g c0 c1 c2).heap[g]? = some (.cells #[c0, c1, c2] T (0, 0)) := heap_setCell_same _ _ _ _ _ _ h1
  exact h2
theorem put3_only {r g : Nat} {w W : World} (h : Only r w W) (hg : w.heap.size ≤ g) (c0 c1 c2 : Value) : Only r w (put3 W g c0 c1 c2) := ((h.setCell (.inr hg) _).setCell (.inr hg) _).setCell (.inr hg) _
theorem put3_rd {r g : Nat} {W : World} {S : M.St} (h : Rd W r S) (hg : r < g) (c0 c1 c2 : Value) : Rd (put3 W g c0 c1 c2) r S := ((h.setCell hg _).setCell hg _).setCell hg _
theorem put3_keep {X : Nat → Prop} {W : World} {g : Nat} (hg : X g) (c0 c1 c2 : Value) : Keep X W (put3 W g c0 c1 c2) := ((keep_set (w := W) (p := ⟨g, 0, none⟩) hg _).trans (keep_set hg _)).trans (keep_set hg _)
theorem res_function {tm : Array Value} {W : World} {g : Nat} {v0 v1 v2 : Value} (ht : tm.getD 2 undef = .pointer (some ⟨g, 0, none⟩)) (h : W.heap[g]? = some (.cells #[v0, v1, v2] 56 (0, 0))) :
    (results Tryz.f30 tm).run Tryz.prog W = .ok (.agg #[v0, v1, v2]) W := by
  obtain ⟨k0, k1, k2, kf, kz⟩ := cells3 h
  simp only [Array.getD_eq_getD_getElem?] at ht
  simp [results, Tryz.results30, go_sem, ht, k0, k1, k2]

set_option maxRecDepth 8000 in
set_option maxHeartbeats 1600000 in
theorem function_any (N : Nat) (r : Nat) (S : M.St) (w : World) (h : Rd w r S) (hN : S.rest.length ≤ N) :
    Calls Tryz.prog 30 #[.pointer (some ⟨r, 0, none⟩)] w (Ends r w (fnEnc w) (M.function N S)) := by
  have hlt := h.lt
  have hmf : ∀ (fn : Fn) (first cap : Array Value) (w : World), (Instr.makeFunc fn first cap).run Tryz.prog w = .ok (.func fn first cap) w := fun _ _ _ _ => rfl
  have ha := (h.alloc (.cells #[.pointer (some ⟨r, 0, none⟩)] 40)).alloc zero3
  have oa : Only r w ((w.alloc (.cells #[.pointer (some ⟨r, 0, none⟩)] 40)).alloc zero3) := ((Only.refl r w).alloc _).alloc _
  have hR0 : ((w.alloc (.cells #[.pointer (some ⟨r, 0, none⟩)] 40)).alloc zero3).heap[w.heap.size]? = some (.cells #[.pointer (some ⟨r, 0, none⟩)] 40) := (Below.heap_alloc _ _ _ (by simp)).trans (heap_alloc_new w _)
  have hg0 : ((w.alloc (.cells #[.pointer (some ⟨r, 0, none⟩)] 40)).alloc zero3).heap[w.heap.size + 1]? = some zero3 := by
    have := heap_alloc_new (w.alloc (.cells #[.pointer (some ⟨r, 0, none⟩)] 40)) zero3
    simp only [World.size_alloc] at this; exact this
  have hz0 : ((w.alloc (.cells #[.pointer (some ⟨r, 0, none⟩)] 40)).alloc zero3).heap.size = w.heap.size + 2 := by simp only [World.size_alloc]
  go_enter Tryz.func30, Tryz.ntmps30
  generalize hwa : (w.alloc (.cells #[.pointer (some ⟨r, 0, none⟩)] 40)).alloc zero3 = wa at ha oa hR0 hg0 hz0
  have HWA := hid hwa
  have HZA := hid hz0
  clear hwa hz0
  go_wp2_with fail
  have hg1 := HWA.out
  unfold zero3 at hg1
  rw [hg1]
  clear hg1
  refine (take_any r S M.kFun _ ha (by decide)).mono ?_
  rintro e w1 ⟨o1, hok, herr⟩
  have o01 := oa.trans o1
  cases ht1 : M.take S M.kFun with
  | error f =>
    obtain rfl := herr f ht1
    exact ⟨rfl, Ends.err (by rw [M.function, ht1]; rfl) o01⟩
  | ok p =>
    obtain ⟨S1, u⟩ := p
    obtain ⟨v1, rfl, r1, hv1⟩ := hok S1 u ht1
    obtain rfl : v1 = .tuple #[] := hv1
    have hzA := HZA.out
    have bR1 := (o1.block w.heap.size (by omega) (by omega)).trans hR0
    have cR1 := cell0 bR1
    have hs1 := M.take_short ht1 (by decide)
    have HR : Hid (M.function N S = M.bnd (M.name S1) fun S2 n => M.bnd (M.take S2 (M.ch 40)) fun S3 _ => M.bnd (M.list (M.ch 41) M.itemName S3 []) fun S4 ps => M.bnd (M.blk N S4) fun S5 b => .ok (S5, ⟨n, ps, b⟩)) := by unfold Hid; rw [M.function, ht1]; rfl
    clear hok herr hzA
    go_wp2_with fail
    refine (name_any r S1 _ r1).mono ?_
    rintro e w2 ⟨o2, hok, herr⟩
    have o12 := o1.trans o2
    cases ht2 : M.name S1 with
    | error f =>
      obtain rfl := herr f ht2
      exact ⟨rfl, Ends.err (by rw [HR.out, ht2]; rfl) (oa.trans o12)⟩
    | ok p =>
      obtain ⟨S2, nm⟩ := p
      obtain ⟨v2, rfl, r2, hv2⟩ := hok S2 nm ht2
      obtain rfl : v2 = .string nm := hv2
      have hzA := HZA.out
      have hz12 := o12.size
      have hs2 := M.name_short ht2
      have bR2 := (o12.block w.heap.size (by omega) (by omega)).trans hR0
      have bg2 := (o12.block (w.heap.size + 1) (by omega) (by omega)).trans hg0
      have HR2 : Hid (M.function N S = M.bnd (M.take S2 (M.ch 40)) fun S3 _ => M.bnd (M.list (M.ch 41) M.itemName S3 []) fun S4 ps => M.bnd (M.blk N S4) fun S5 b => .ok (S5, ⟨nm, ps, b⟩)) := by unfold Hid; rw [HR.out, ht2]; rfl
      have hin : NamesIn r w2.heap.size w.heap.size (w2.heap.size + 1) nm w2 (w2.alloc (.cells #[.string nm, .slice none 0 0, .slice none 0 0] 56)) S2 [] :=
        ⟨(Only.refl r w2).alloc _, r2.lt, by omega, by omega, Nat.le_refl _, by omega, by omega, by rw [World.size_alloc]; omega, (Below.heap_alloc _ _ _ (by omega)).trans bR2, ⟨_, heap_alloc_new w2 _, World.ownsRow_nil _ _ _ _⟩, by simpa using r2.few⟩
      have ra := r2.alloc (.cells #[.string nm, .slice none 0 0, .slice none 0 0] 56)
      have cRa := cell0 hin.boxR
      have cR2 := cell0 bR2
      clear hok herr hzA HR
      go_wp2_with fail
      refine (take_any r S2 (M.ch 40) _ ra (by decide)).mono ?_
      rintro e w3 ⟨o3, hok, herr⟩
      have o23 : Only r w2 w3 := ((Only.refl r w2).alloc _).trans o3
      cases ht3 : M.take S2 (M.ch 40) with
      | error f =>
        obtain rfl := herr f ht3
        exact ⟨rfl, Ends.err (by rw [HR2.out, ht3]; rfl) (oa.trans (o12.trans o23))⟩
      | ok p =>
        obtain ⟨S3, u⟩ := p
        obtain ⟨v3, rfl, r3, hv3⟩ := hok S3 u ht3
        obtain rfl : v3 = .tuple #[] := hv3
        have hle3 := (M.take_le ht3).rest
        have hin3 := hin.mono o3 (S' := S3) hle3
        have cR3 := cell0 hin3.boxR
        have HR3 : Hid (M.function N S = M.bnd (M.list (M.ch 41) M.itemName S3 []) fun S4 ps => M.bnd (M.blk N S4) fun S5 b => .ok (S5, ⟨nm, ps, b⟩)) := by unfold Hid; rw [HR2.out, ht3]; rfl
        clear hok herr HR2
        go_wp2_with fail
        refine (list_fun r (M.ch 41) (by decide) M.itemName (fun W S l => NamesIn r w2.heap.size w.heap.size (w2.heap.size + 1) nm w2 W S l) _ _ w2 (fun _ _ _ h => h.only) (fun _ _ _ _ _ h o l => h.mono o l) (fun _ _ _ _ h => M.itemName_short h)
          (fun W S l hR hI => nameItem_any r _ _ _ nm w2 W S l hR hI) S3 [] _ r3 hin3).mono ?_
        rintro e w4 ⟨o4, hok, herr⟩
        cases hls : M.list (M.ch 41) M.itemName S3 [] with
        | error f =>
          obtain rfl := herr f hls
          exact ⟨rfl, Ends.err (by rw [HR3.out, hls]; rfl) (oa.trans (o12.trans o4))⟩
        | ok p =>
          obtain ⟨S4, ps⟩ := p
          obtain ⟨rfl, r4, i4⟩ := hok S4 ps hls
          have hle4 := (M.list_le (fun _ _ _ _ h => M.itemName_le h) hls).rest
          have cR4 := cell0 i4.boxR
          have HR4 : Hid (M.function N S = M.bnd (M.blk N S4) fun S5 b => .ok (S5, ⟨nm, ps, b⟩)) := by unfold Hid; rw [HR3.out, hls]; rfl
          clear hok herr HR3
          go_wp2_with fail
          refine (blockC N r S4 _ r4 (by omega)).mono ?_
          rintro e w5 ⟨o5, hok, herr⟩
          have i5 := fun (S' : M.St) (hle : S'.rest.length ≤ S4.rest.length) => i4.mono o5 (S' := S') hle
          cases hbl : M.blk N S4 with
          | error f =>
            obtain rfl := herr f hbl
            exact ⟨rfl, Ends.err (by rw [HR4.out, hbl]; rfl) (oa.trans (o12.trans (o4.trans o5)))⟩
          | ok p =>
            obtain ⟨S5, b⟩ := p
            obtain ⟨v5, rfl, r5, hT⟩ := hok S5 b hbl
            have hT' : StmAt w5 (Old w4) v5 b := hT
            obtain ⟨a5, c5, rfl⟩ := hT'.form
            have i5' := i5 S5 (M.blk_le N hbl).rest
            obtain ⟨vp, boxL, own⟩ := i5'.boxL
            obtain ⟨ap, cp, rfl⟩ := own_form own
            have hzA := HZA.out
            have hz4 := i4.bs
            have bg5 := ((o4.trans o5).block (w.heap.size + 1) (by omega) (by omega)).trans bg2
            obtain ⟨k0, k1, k2, kf, kz⟩ := cells3 boxL
            obtain ⟨q0, q1, q2, qf, qz⟩ := cells3 bg5
            have hgL : ¬ w.heap.size + 1 = w2.heap.size := by omega
            have hLg : ¬ w2.heap.size = w.heap.size + 1 := by omega
            have hLr : r < w2.heap.size := r2.lt
            have hfew := i5'.few
            clear hok herr i5 hzA
            go_wp2_with fail
            have bg6 : (w5.setCell ⟨w2.heap.size, 2, none⟩ (.slice a5 b.len c5)).heap[w.heap.size + 1]? = some zero3 := (Below.heap_setCell _ _ _ _ hgL).trans bg5
            have hzA := HZA.out
            have own6 := ownsRow_setCell_below own (a := ⟨w2.heap.size, 2, none⟩) (Nat.lt_succ_self _) (.slice a5 b.len c5)
            refine ret8 (enc := fnEnc w) (res := M.function N S) (S' := S5) (a := (⟨nm, ps, b⟩ : M.Fn)) (res_function (by rfl) (put3_at bg6 _ _ _)) (by rw [HR4.out, hbl]; rfl) (put3_only (((oa.trans (o12.trans (o4.trans o5)))).setCell (.inr (by show w.heap.size ≤ w2.heap.size; omega)) _) (by omega) _ _ _) (put3_rd (r5.setCell hLr _) (by omega) _ _ _) ⟨_, _, rfl, ?_, ?_⟩
            · exact ((SlAt.of_owns (X := fun b => b < w2.heap.size + 1) own6 (fun b hb hx => by omega) (by omega)).keep (put3_keep (by omega) _ _ _)).weak fun b _ hx hy => hx (by have : b < w.heap.size := hy; omega)
            · exact hT'.fresh ((keep_set (X := Old w4) (by show w2.heap.size < w4.heap.size; omega) _).trans (put3_keep (by show w.heap.size + 1 < w4.heap.size; omega) _ _ _)) (by omega)
end Go.Proofs.YtkonkdhoakcmdaaGreatDoor
