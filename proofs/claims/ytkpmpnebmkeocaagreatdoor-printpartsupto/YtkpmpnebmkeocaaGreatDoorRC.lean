/-
  The walk of a reader's function. Conditions: those that each fact names.
-/
import Derived.Test.YtkpmpnebmkeocaaGreatDoorRB
import Derived.Defers
import Derived.Recover
set_option linter.unusedVariables false
section
namespace Go.Proofs.YtkpmpnebmkeocaaGreatDoor
open Go.RowKit

def fnEnc (w0 : World) : M.Fn → Value → World → Prop := fun f v w => ∃ vp vb, v = .agg #[.string f.name, vp, vb] ∧ StrsAt w (Old w0) vp f.ps ∧ StmAt w (Old w0) vb f.body
abbrev zero3 : Obj := .cells #[.string ⟨#[]⟩, .slice none 0 0, .slice none 0 0] 34
abbrev put3 (W : World) (g : Nat) (c0 c1 c2 : Value) : World := ((W.setCell ⟨g, 0, none⟩ c0).setCell ⟨g, 1, none⟩ c1).setCell ⟨g, 2, none⟩ c2
theorem put3_at {W : World} {g : Nat} {T : TypeId} {v0 v1 v2 : Value} (h : W.heap[g]? = some (.cells #[v0, v1, v2] T (0, 0))) (c0 c1 c2 : Value) : (put3 W g c0 c1 c2).heap[g]? = some (.cells #[c0, c1, c2] T (0, 0)) := by
  have h0 : (W.setCell ⟨g, 0, none⟩ c0).heap[g]? = some (.cells #[c0, v1, v2] T (0, 0)) := heap_setCell_same _ _ _ _ _ _ h
  have h1 : ((W.setCell ⟨g, 0, none⟩ c0).setCell ⟨g, 1, none⟩ c1).heap[g]? = some (.cells #[c0, c1, v2] T (0, 0)) := heap_setCell_same _ _ _ _ _ _ h0
  have h2 : (put3 W g c0 c1 c2).heap[g]? = some (.cells #[c0, c1, c2] T (0, 0)) := heap_setCell_same _ _ _ _ _ _ h1
  exact h2
theorem put3_only {r g : Nat} {w W : World} (h : Only r w W) (hg : w.heap.size ≤ g) (c0 c1 c2 : Value) : Only r w (put3 W g c0 c1 c2) := ((h.setCell (.inr hg) _).setCell (.inr hg) _).setCell (.inr hg) _
theorem put3_rd {r g : Nat} {W : World} {S : M.St} (h : Rd W r S) (hg : r < g) (c0 c1 c2 : Value) : Rd (put3 W g c0 c1 c2) r S := ((h.setCell hg _).setCell hg _).setCell hg _
theorem put3_keep {X : Nat → Prop} {W : World} {g : Nat} (hg : X g) (c0 c1 c2 : Value) : Keep X W (put3 W g c0 c1 c2) := ((keep_set (w := W) (p := ⟨g, 0, none⟩) hg _).trans (keep_set hg _)).trans (keep_set hg _)
theorem res_function {tm : Array Value} {W : World} {g : Nat} {v0 v1 v2 : Value} (ht : tm.getD 2 undef = .pointer (some ⟨g, 0, none⟩)) (h : W.heap[g]? = some (.cells #[v0, v1, v2] 34 (0, 0))) :
    (results Tryz.f96 tm).run Tryz.prog W = .ok (.agg #[v0, v1, v2]) W := by
  obtain ⟨k0, k1, k2, kf, kz⟩ := cells3 h
  simp only [Array.getD_eq_getD_getElem?] at ht
  simp [results, Tryz.results96, go_sem, ht, k0, k1, k2]

set_option maxRecDepth 8000 in
set_option maxHeartbeats 1600000 in
theorem function_any (N : Nat) (r : Nat) (S : M.St) (w : World) (h : Rd w r S) (hN : S.rest.length ≤ N) :
    Calls Tryz.prog 96 #[.pointer (some ⟨r, 0, none⟩)] w (Ends r w (fnEnc w) (M.function N S)) := by
  have hlt := h.lt
  have hmf : ∀ (fn : Fn) (first cap : Array Value) (w : World), (Instr.makeFunc fn first cap).run Tryz.prog w = .ok (.func fn first cap) w := fun _ _ _ _ => rfl
  have ha := (h.alloc (.cells #[.pointer (some ⟨r, 0, none⟩)] 110)).alloc zero3
  have oa : Only r w ((w.alloc (.cells #[.pointer (some ⟨r, 0, none⟩)] 110)).alloc zero3) := ((Only.refl r w).alloc _).alloc _
  have hR0 : ((w.alloc (.cells #[.pointer (some ⟨r, 0, none⟩)] 110)).alloc zero3).heap[w.heap.size]? = some (.cells #[.pointer (some ⟨r, 0, none⟩)] 110) := (Below.heap_alloc _ _ _ (by simp)).trans (heap_alloc_new w _)
  have hg0 : ((w.alloc (.cells #[.pointer (some ⟨r, 0, none⟩)] 110)).alloc zero3).heap[w.heap.size + 1]? = some zero3 := by
    have := heap_alloc_new (w.alloc (.cells #[.pointer (some ⟨r, 0, none⟩)] 110)) zero3
    simp only [World.size_alloc] at this; exact this
  have hz0 : ((w.alloc (.cells #[.pointer (some ⟨r, 0, none⟩)] 110)).alloc zero3).heap.size = w.heap.size + 2 := by simp only [World.size_alloc]
  go_enter Tryz.func96, Tryz.ntmps96
  generalize hwa : (w.alloc (.cells #[.pointer (some ⟨r, 0, none⟩)] 110)).alloc zero3 = wa at ha oa hR0 hg0 hz0
  have HWA := hid hwa
  have HZA := hid hz0
  clear hwa hz0
  go_wp2_with fail
  have hg1 := HWA.out
  unfold zero3 at hg1
  rw [hg1]
  clear hg1
  refine (take_any r S M.kFun _ ha (by decide)).mono ?_
  rintro e w1 ⟨o1, hok, herr⟩
  have o01 := oa.trans o1
  cases ht1 : M.take S M.kFun with
  | error f =>
    obtain rfl := herr f ht1
    exact ⟨rfl, Ends.err (by rw [M.function, ht1]; rfl) o01⟩
  | ok p =>
    obtain ⟨S1, u⟩ := p
    obtain ⟨v1, rfl, r1, hv1⟩ := hok S1 u ht1
    obtain rfl : v1 = .tuple #[] := hv1
    have hzA := HZA.out
    have bR1 := (o1.block w.heap.size (by omega) (by omega)).trans hR0
    have cR1 := cell0 bR1
    have hs1 := M.take_short ht1 (by decide)
    have HR : Hid (M.function N S = M.bnd (M.name S1) fun S2 n => M.bnd (M.take S2 (M.ch 40)) fun S3 _ => M.bnd (M.list (M.ch 41) M.itemName S3 []) fun S4 ps => M.bnd (M.blk N S4) fun S5 b => .ok (S5, ⟨n, ps, b⟩)) := by unfold Hid; rw [M.function, ht1]; rfl
    clear hok herr hzA
    go_wp2_with fail
    refine (name_any r S1 _ r1).mono ?_
    rintro e w2 ⟨o2, hok, herr⟩
    have o12 := o1.trans o2
    cases ht2 : M.name S1 with
    | error f =>
      obtain rfl := herr f ht2
      exact ⟨rfl, Ends.err (by rw [HR.out, ht2]; rfl) (oa.trans o12)⟩
    | ok p =>
      obtain ⟨S2, nm⟩ := p
      obtain ⟨v2, rfl, r2, hv2⟩ := hok S2 nm ht2
      obtain rfl : v2 = .string nm := hv2
      have hzA := HZA.out
      have hz12 := o12.size
      have hs2 := M.name_short ht2
      have bR2 := (o12.block w.heap.size (by omega) (by omega)).trans hR0
      have bg2 := (o12.block (w.heap.size + 1) (by omega) (by omega)).trans hg0
      have HR2 : Hid (M.function N S = M.bnd (M.take S2 (M.ch 40)) fun S3 _ => M.bnd (M.list (M.ch 41) M.itemName S3 []) fun S4 ps => M.bnd (M.blk N S4) fun S5 b => .ok (S5, ⟨nm, ps, b⟩)) := by unfold Hid; rw [HR.out, ht2]; rfl
      have hin : NamesIn r w2.heap.size w.heap.size (w2.heap.size + 1) nm w2 (w2.alloc (.cells #[.string nm, .slice none 0 0, .slice none 0 0] 34)) S2 [] :=
        ⟨(Only.refl r w2).alloc _, r2.lt, by omega, by omega, Nat.le_refl _, by omega, by omega, by rw [World.size_alloc]; omega, (Below.heap_alloc _ _ _ (by omega)).trans bR2, ⟨_, heap_alloc_new w2 _, World.ownsRow_nil _ _ _ _⟩, by simpa using r2.few⟩
      have ra := r2.alloc (.cells #[.string nm, .slice none 0 0, .slice none 0 0] 34)
      have cRa := cell0 hin.boxR
      have cR2 := cell0 bR2
      clear hok herr hzA HR
      go_wp2_with fail
      refine (take_any r S2 (M.ch 40) _ ra (by decide)).mono ?_
      rintro e w3 ⟨o3, hok, herr⟩
      have o23 : Only r w2 w3 := ((Only.refl r w2).alloc _).trans o3
      cases ht3 : M.take S2 (M.ch 40) with
      | error f =>
        obtain rfl := herr f ht3
        exact ⟨rfl, Ends.err (by rw [HR2.out, ht3]; rfl) (oa.trans (o12.trans o23))⟩
      | ok p =>
        obtain ⟨S3, u⟩ := p
        obtain ⟨v3, rfl, r3, hv3⟩ := hok S3 u ht3
        obtain rfl : v3 = .tuple #[] := hv3
        have hle3 := (M.take_le ht3).rest
        have hin3 := hin.mono o3 (S' := S3) hle3
        have cR3 := cell0 hin3.boxR
        have HR3 : Hid (M.function N S = M.bnd (M.list (M.ch 41) M.itemName S3 []) fun S4 ps => M.bnd (M.blk N S4) fun S5 b => .ok (S5, ⟨nm, ps, b⟩)) := by unfold Hid; rw [HR2.out, ht3]; rfl
        clear hok herr HR2
        go_wp2_with fail
        refine (list_fun r (M.ch 41) (by decide) M.itemName (fun W S l => NamesIn r w2.heap.size w.heap.size (w2.heap.size + 1) nm w2 W S l) _ _ w2 (fun _ _ _ h => h.only) (fun _ _ _ _ _ h o l => h.mono o l) (fun _ _ _ _ h => M.itemName_short h)
          (fun W S l hR hI => nameItem_any r _ _ _ nm w2 W S l hR hI) S3 [] _ r3 hin3).mono ?_
        rintro e w4 ⟨o4, hok, herr⟩
        cases hls : M.list (M.ch 41) M.itemName S3 [] with
        | error f =>
          obtain rfl := herr f hls
          exact ⟨rfl, Ends.err (by rw [HR3.out, hls]; rfl) (oa.trans (o12.trans o4))⟩
        | ok p =>
          obtain ⟨S4, ps⟩ := p
          obtain ⟨rfl, r4, i4⟩ := hok S4 ps hls
          have hle4 := (M.list_le (fun _ _ _ _ h => M.itemName_le h) hls).rest
          have cR4 := cell0 i4.boxR
          have HR4 : Hid (M.function N S = M.bnd (M.blk N S4) fun S5 b => .ok (S5, ⟨nm, ps, b⟩)) := by unfold Hid; rw [HR3.out, hls]; rfl
          clear hok herr HR3
          go_wp2_with fail
          refine (blockC N r S4 _ r4 (by omega)).mono ?_
          rintro e w5 ⟨o5, hok, herr⟩
          have i5 := fun (S' : M.St) (hle : S'.rest.length ≤ S4.rest.length) => i4.mono o5 (S' := S') hle
          cases hbl : M.blk N S4 with
          | error f =>
            obtain rfl := herr f hbl
            exact ⟨rfl, Ends.err (by rw [HR4.out, hbl]; rfl) (oa.trans (o12.trans (o4.trans o5)))⟩
          | ok p =>
            obtain ⟨S5, b⟩ := p
            obtain ⟨v5, rfl, r5, hT⟩ := hok S5 b hbl
            have hT' : StmAt w5 (Old w4) v5 b := hT
            obtain ⟨a5, c5, rfl⟩ := hT'.form
            have i5' := i5 S5 (M.blk_le N hbl).rest
            obtain ⟨vp, boxL, own⟩ := i5'.boxL
            obtain ⟨ap, cp, rfl⟩ := own_form own
            have hzA := HZA.out
            have hz4 := i4.bs
            have bg5 := ((o4.trans o5).block (w.heap.size + 1) (by omega) (by omega)).trans bg2
            obtain ⟨k0, k1, k2, kf, kz⟩ := cells3 boxL
            obtain ⟨q0, q1, q2, qf, qz⟩ := cells3 bg5
            have hgL : ¬ w.heap.size + 1 = w2.heap.size := by omega
            have hLg : ¬ w2.heap.size = w.heap.size + 1 := by omega
            have hLr : r < w2.heap.size := r2.lt
            have hfew := i5'.few
            clear hok herr i5 hzA
            go_wp2_with fail
            have bg6 : (w5.setCell ⟨w2.heap.size, 2, none⟩ (.slice a5 b.len c5)).heap[w.heap.size + 1]? = some zero3 := (Below.heap_setCell _ _ _ _ hgL).trans bg5
            have hzA := HZA.out
            have own6 := ownsRow_setCell_below own (a := ⟨w2.heap.size, 2, none⟩) (Nat.lt_succ_self _) (.slice a5 b.len c5)
            refine ret8 (enc := fnEnc w) (res := M.function N S) (S' := S5) (a := (⟨nm, ps, b⟩ : M.Fn)) (res_function (by rfl) (put3_at bg6 _ _ _)) (by rw [HR4.out, hbl]; rfl) (put3_only (((oa.trans (o12.trans (o4.trans o5)))).setCell (.inr (by show w.heap.size ≤ w2.heap.size; omega)) _) (by omega) _ _ _) (put3_rd (r5.setCell hLr _) (by omega) _ _ _) ⟨_, _, rfl, ?_, ?_⟩
            · exact ((SlAt.of_owns (X := fun b => b < w2.heap.size + 1) own6 (fun b hb hx => by omega) (by omega)).keep (put3_keep (by omega) _ _ _)).weak fun b _ hx hy => hx (by have : b < w.heap.size := hy; omega)
            · exact hT'.fresh ((keep_set (X := Old w4) (by show w2.heap.size < w4.heap.size; omega) _).trans (put3_keep (by show w.heap.size + 1 < w4.heap.size; omega) _ _ _)) (by omega)
end Go.Proofs.YtkpmpnebmkeocaaGreatDoor
end
section
namespace Go.Proofs.YtkpmpnebmkeocaaGreatDoor
open Go.RowKit

def prgEnc (w0 : World) : List M.Fn → Value → World → Prop := fun l v w => ∃ vf, v = .agg #[vf] ∧ ProgAt w (Old w0) vf l
abbrev zero1 : Obj := .cells #[.slice none 0 0] 24
theorem infoFn : (Tryz.prog.info? 34).map (fun i => (i.zero, i.size, i.bytes)) = some (some (.agg #[.string ⟨#[]⟩, .slice none 0 0, .slice none 0 0]), 3, 64) := by kernel_rfl
theorem res_program {tm : Array Value} {W : World} {g : Nat} {v0 : Value} (ht : tm.getD 2 undef = .pointer (some ⟨g, 0, none⟩)) (h : W.heap[g]? = some (.cells #[v0] 24 (0, 0))) :
    (results Tryz.f84 tm).run Tryz.prog W = .ok (.agg #[v0]) W := by
  have k0 := cell0 h
  simp only [Array.getD_eq_getD_getElem?] at ht
  simp [results, Tryz.results84, go_sem, ht, k0]

def AvoidN (base : Nat) (v : Value) : Nat → Prop := fun b => b < base ∨ v.ownBlock = some b

theorem fns_step {r g n cap base : Nat} {wr w3 w5 : World} {v : Value} {acc : List M.Fn} {cs : List Value} {obj : Obj} {f : M.Fn} {vp vb : Value}
    (hr : r < base) (hb : base ≤ wr.heap.size) (own : wr.ownsRow base 34 3 v acc.length cs) (row : FnsAt wr (AvoidN base v) cs acc) (o3 : Only r wr w3)
    (hP : StrsAt w3 (Old wr) vp f.ps) (hT : StmAt w3 (Old wr) vb f.body)
    (hgrow : (w3.alloc obj).grownBy w5 v.ownBlock) (hat : v.ownBlock = some g ∨ g = w3.heap.size + 1) :
    FnsAt w5 (AvoidN base (.slice (some ⟨g, 0, none⟩) n cap)) (cs ++ [.string f.name, vp, vb]) (acc ++ [f]) := by
  have hza : (w3.alloc obj).heap.size = w3.heap.size + 1 := World.size_alloc _ _
  have hob : ∀ k, v.ownBlock = some k → base ≤ k ∧ k < wr.heap.size := fun k hk => own.lt k hk
  have hz3 := o3.size
  have row3 : FnsAt (w3.alloc obj) (AvoidN base v) cs acc := FnsAt.keep (Below.keepX ((Below.refl _ _).alloc (Nat.le_refl _) obj)) (FnsAt.keep (o3.keep (.inl hr)) row)
  have new3 : FnsAt (w3.alloc obj) (Old wr) [.string f.name, vp, vb] [f] :=
    FnsAt.keep (Below.keepX ((Below.refl _ _).alloc (Nat.le_refl _) obj)) ⟨vp, vb, [], rfl, hP, hT, rfl⟩
  have hweak : ∀ b, b < (w3.alloc obj).heap.size → (¬ AvoidN base v b ∨ ¬ Old wr b) → ¬ (b < base ∨ v.ownBlock = some b ∨ b = g) := by
    intro b hb' hx hy
    rw [hza] at hb'
    have h1 : ¬ (b < base ∨ v.ownBlock = some b) := by
      intro h2
      rcases hx with hx | hx
      · exact hx h2
      · apply hx
        rcases h2 with h2 | h2
        · exact Nat.lt_of_lt_of_le h2 hb
        · exact (hob b h2).2
    rcases hy with hy | hy | rfl
    · exact h1 (.inl hy)
    · exact h1 (.inr hy)
    · rcases hat with hat | hat
      · exact h1 (.inr hat)
      · omega
  have hx := FnsAt.app (FnsAt.weak (Y := fun b => b < base ∨ v.ownBlock = some b ∨ b = g) (fun b hb hx => hweak b hb (.inl hx)) row3) (FnsAt.weak (fun b hb hx => hweak b hb (.inr hx)) new3)
  refine FnsAt.weak ?_ (FnsAt.keep (keep_grown hgrow fun k hk => .inr (.inl hk)) hx)
  intro b _ hx hy
  apply hx
  rcases hy with hy | hy
  · exact .inl hy
  · simp only [Value.ownBlock, Option.some.injEq] at hy
    exact .inr (.inr hy.symm)

structure PrgIn (r N : Nat) (w wr : World) (k : Nat) (v : Value) (S2 : M.St) (acc : List M.Fn) (cs : List Value) : Prop where
  rd : Rd wr r S2
  only : Only r (w.alloc zero1) wr
  boxL : wr.heap[w.heap.size + 1]? = some (.cells #[v] 24 (0, 0))
  own : wr.ownsRow (w.heap.size + 2) 34 3 v acc.length cs
  row : FnsAt wr (AvoidN (w.heap.size + 2) v) cs acc
  bs : w.heap.size + 2 ≤ wr.heap.size
  lt : S2.rest.length < k
  le : S2.rest.length ≤ N
  few : 2 * acc.length + S2.rest.length ≤ 4398046511104

set_option maxRecDepth 8000 in
set_option maxHeartbeats 1600000 in
theorem program_any (N : Nat) (r : Nat) (S : M.St) (w : World) (h : Rd w r S) (hN : S.rest.length ≤ N) :
    Calls Tryz.prog 84 #[.pointer (some ⟨r, 0, none⟩)] w (Ends r w (prgEnc w) (M.funcs N (S.rest.length + 1) S [])) := by
  have hlt := h.lt
  obtain ⟨i0, hi0, hz0, hz1, hz2⟩ := info_parts infoFn
  have ha := (h.alloc zero1).alloc zero1
  have oa : Only r (w.alloc zero1) ((w.alloc zero1).alloc zero1) := (Only.refl r _).alloc _
  have hL0 : ((w.alloc zero1).alloc zero1).heap[w.heap.size + 1]? = some zero1 := by
    have := heap_alloc_new (w.alloc zero1) zero1
    simp only [World.size_alloc] at this; exact this
  have o0 : Only r w (w.alloc zero1) := (Only.refl r w).alloc _
  have hg0 := heap_alloc_new w zero1
  have hzz : ((w.alloc zero1).alloc zero1).heap.size = w.heap.size + 2 := by simp only [World.size_alloc]
  have hz1' : (w.alloc zero1).heap.size = w.heap.size + 1 := World.size_alloc _ _
  go_enter Tryz.func84, Tryz.ntmps84
  go_wp2_with fail
  go_loopg [] (S.rest.length + 1) (fun k wr => ∃ v S2 acc cs, PrgIn r N w wr k v S2 acc cs ∧ Hid (M.funcs N (S.rest.length + 1) S [] = M.funcs N k S2 acc))
  case atStart =>
    exact ⟨_, S, [], [], ⟨ha, oa, hL0, World.ownsRow_nil _ _ _ _, rfl, by rw [hzz]; omega, Nat.lt_succ_self _, hN, by simpa using h.few⟩, rfl⟩
  case round =>
    obtain ⟨v, S2, acc, cs, ⟨rd, only, boxL, own, row, bs, hkl, hle, few⟩, HM⟩ := hrel
    obtain ⟨⟨vr, hh, htc⟩, _, _⟩ := id rd
    obtain ⟨cv, cfin, ck, ct, cp, cn5, cd6, cfree, clt⟩ := cells7 hh
    obtain ⟨⟨tl1, tl2, ta, tcap, rfl, hT⟩, hap, hcap⟩ := htc
    have cL := cell0 boxL
    have hg := (only.block w.heap.size (by rw [hz1']; omega) (by omega)).trans hg0
    cases gk with
    | zero => exact absurd hkl (by omega)
    | succ k =>
      by_cases hempty : S2.rest = []
      · have HM2 : Hid (M.funcs N (S.rest.length + 1) S [] = .ok (S2, acc)) := by
          unfold Hid; rw [HM.out]; simp [M.funcs, hempty]
        have hl0 : S2.rest.length = 0 := by rw [hempty]; rfl
        rw [hl0] at cv
        obtain ⟨av, cvv, rfl⟩ := own_form own
        have cg := cell0 hg
        have cgf := Lib.frozen_of_heap hg 0
        clear hz1' hzz
        go_wp2_with fail
        have hset : (wr.setCell ⟨w.heap.size, 0, none⟩ (.slice av acc.length cvv)).heap[w.heap.size]? = some (.cells #[.slice av acc.length cvv] 24 (0, 0)) := heap_setCell_same _ _ _ _ _ _ hg
        refine ret8 (enc := prgEnc w) (res := M.funcs N (S.rest.length + 1) S []) (S' := S2) (a := acc) (res_program (by rfl) hset) HM2.out ((o0.trans only).setCell (.inr (Nat.le_refl _)) _) (rd.setCell (by show r < w.heap.size; exact hlt) _) ⟨_, rfl, cs, ?_, ?_⟩
        · exact ((SlAt.of_owns (X := fun b => b < w.heap.size + 2) own (fun b hb hx => by omega) (by omega)).keep (keep_set (by show w.heap.size < _; omega) _)).weak fun b _ hx hy => hx (by have : b < w.heap.size := hy; omega)
        · exact FnsAt.weak (fun b _ hx hy => hx (.inl (by have : b < w.heap.size := hy; omega))) (FnsAt.keep (keep_set (p := ⟨w.heap.size, 0, none⟩) (.inl (by show w.heap.size < w.heap.size + 2; omega)) _) row)
      · have hpos : 0 < S2.rest.length := List.length_pos_iff.2 hempty
        have hgt : (0 : Int) < (S2.rest.length : Int) := by omega
        have HM2 : Hid (M.funcs N (S.rest.length + 1) S [] = M.bnd (M.function N S2) fun S1 f => M.funcs N k S1 (acc ++ [f])) := by
          unfold Hid; rw [HM.out]; simp [M.funcs, hempty]
        have hLr : w.heap.size + 1 ≠ r := by omega
        have hlL : w.heap.size + 1 < wr.heap.size := by omega
        clear hz1' hzz
        cases hfn : M.function N S2 with
        | error f =>
          have hcall : Calls Tryz.prog 96 #[.pointer (some ⟨r, 0, none⟩)] wr.drew fun e w' => e = .panicked (stopOf f) ∧ Only r wr w' :=
            (function_any N r S2 _ rd.drew hle).mono fun e w' ⟨o1, _, h2⟩ => ⟨h2 f hfn, (Only.refl r wr).drew.trans o1⟩
          go_wp2_with fail
          refine wp_region_held_drew (S := fun w' => w'.cell? ⟨w.heap.size + 1, 0, none⟩ = some v) (by kernel_rfl) cL (fun hHeld => ?_)
          refine wpAnyH_take (i := 0) (oi := _) (v := .pointer (some ⟨w.heap.size + 1, 0, none⟩)) rfl (by kernel_rfl) (by kernel_rfl) (by kernel_rfl) (fun _ _ _ h => h) (Or.inl ⟨by rfl, ?_⟩) hHeld ?_
          · intro w hSw
            try dsimp only at hSw
            go_simp
          simp only [Act.put, List.setIfInBounds_toArray]
          refine wpAnyH_take (i := 1) (oi := _) (v := v) rfl (by kernel_rfl) (by kernel_rfl) (by kernel_rfl) (fun _ _ _ h => h) (Or.inl ⟨by rfl, ?_⟩) hHeld ?_
          · intro w hSw
            try dsimp only at hSw
            go_simp
          simp only [Act.put]
          refine wpAnyH_take (i := 2) (oi := _) (v := .pointer (some ⟨r, 0, none⟩)) rfl (by kernel_rfl) (by kernel_rfl) (by kernel_rfl) (fun _ _ _ h => h) (Or.inl ⟨by rfl, ?_⟩) hHeld ?_
          · intro w hSw
            try dsimp only at hSw
            go_simp
          simp only [Act.put]
          refine wpAnyH_ready (rs := [3]) (by kernel_rfl) (by simp) ?_
          refine AllReadyH.cons rfl (fun K hK => ?_) AllReadyH.nil
          go_simp
          refine hcall.mono ?_
          rintro e w4 ⟨rfl, o4⟩
          exact ⟨rfl, Ends.err (by rw [HM2.out, hfn]; rfl) (o0.trans (only.trans o4))⟩
        | ok p =>
          obtain ⟨S3, f⟩ := p
          have hsh := M.function_short hfn
          have hcall : Calls Tryz.prog 96 #[.pointer (some ⟨r, 0, none⟩)] wr.drew fun e w' => (∃ ap cp ab cb, e = .returned (.agg #[.string f.name, .slice ap f.ps.length cp, .slice ab f.body.len cb]) ∧ StrsAt w' (Old wr) (.slice ap f.ps.length cp) f.ps ∧ StmAt w' (Old wr) (.slice ab f.body.len cb) f.body) ∧ Rd w' r S3 ∧ Only r wr w' ∧ w'.heap[w.heap.size + 1]? = some (.cells #[v] 24 (0, 0)) ∧ w'.ownsRow (w.heap.size + 2) 34 3 v acc.length cs :=
            (function_any N r S2 _ rd.drew hle).mono fun e w' ⟨o1, h1, _⟩ => by
              obtain ⟨v1, rfl, q1, vp, vb, rfl, hP, hT⟩ := h1 S3 f hfn
              obtain ⟨ap, cp, rfl⟩ := SlAt.form hP
              obtain ⟨ab, cb, rfl⟩ := StmAt.form hT
              have o3 : Only r wr w' := (Only.refl r wr).drew.trans o1
              exact ⟨⟨ap, cp, ab, cb, rfl, hP, hT⟩, q1, o3, (o3.block _ hlL hLr).trans boxL, ownsRow_only own o3 (by omega)⟩
          have hm63 : acc.length + 1 ≤ maxLen := by unfold maxLen; omega
          have hmby : (acc.length + 1) * 64 ≤ 140737488355328 := by omega
          have hvL : v.ownBlock ≠ some (w.heap.size + 1) := fun e => by have := (own.lt _ e).1; omega
          go_wp2_with fail
          go_region_law
            (first
              | (refine step_append_lies _ (by rfl) _ _ _ (by rfl) (w.heap.size + 2) 34 i0 _ 3 64 Tryz.underlying22 hi0 hz0 hz1 hz2 rfl (by omega) v acc.length cs (by rfl) (own1.alloc _)
                  ⟨w1.heap.size, 0, none⟩ 1 1 [.string f.name, .slice ap f.ps.length cp, .slice ab f.body.len cb] (by rfl) (by rfl) (World.news_of_block (cs := #[.string f.name, .slice ap f.ps.length cp, .slice ab f.body.len cb]) (t := 34) (fr := (0, 0)) (heap_alloc_new w1 _)) (by simp [Value.oneCell'])
                  Nat.one_pos hm63 hmby (by rw [World.size_alloc]; omega) (w1.heap.size + 1) (World.size_alloc _ _) ?_; intro gg cap' w2 hown2 hgrow hat hlt2; have bL2 := (hgrow.block (w.heap.size + 1) (by rw [World.size_alloc]; omega) (Ne.symm hvL)).trans ((Below.heap_alloc _ _ _ (by omega)).trans bL1); have hfz2 := Lib.frozen_of_heap bL2 0; have cL2 := cell0 bL2)
              | (go_simp; go_at_call 96; refine hcall.mono ?_; rintro e w1 ⟨⟨ap, cp, ab, cb, rfl, hP, hT⟩, r1, o1, bL1, own1⟩; have hsz1 := o1.size; have cL1 := cell0 bL1; have hlL1 : w.heap.size + 1 < w1.heap.size := (by omega)))
          all_goals
            go_wp2_with fail
            obtain ⟨g1, g2, g3, g4, g5, g6⟩ := grow_step (c := 0) (only.trans o1) (by rw [World.size_alloc]; omega) (by rw [World.size_alloc]; omega) (by omega) bL1 own1 hgrow (by omega) (.slice (some ⟨gg, 0, none⟩) (acc.length + 1) cap')
            go_roundg k
            case measure => omega
            case rel =>
              refine ⟨_, S3, acc ++ [f], _, ⟨g2 _ r1, g1, g3, ?_, FnsAt.keep (keep_set (p := ⟨w.heap.size + 1, 0, none⟩) (.inl (by show w.heap.size + 1 < w.heap.size + 2; omega)) _) (fns_step (n := acc.length + 1) (cap := cap') (by omega) bs own row o1 hP hT hgrow hat), by omega, by omega, by omega, ?_⟩, ?_⟩
              · have := g6 hown2 (by omega)
                simpa using this
              · simp only [List.length_append, List.length_cons, List.length_nil]; omega
              · unfold Hid; rw [HM2.out, hfn]; rfl
end Go.Proofs.YtkpmpnebmkeocaaGreatDoor
end
section
namespace Go.Proofs.YtkpmpnebmkeocaaGreatDoor
open Go.RowKit

theorem newReader_any (v : Value) (l : List M.Tok) (fin : Int) (w : World) (h : TokAt w v l) (hap : ∀ b o n c, v = .slice (some ⟨b, o, none⟩) n c → b < w.heap.size) (hcap : ∀ a n c, v = .slice a n c → n ≤ c ∧ c ≤ maxLen) (hfew : l.length ≤ 4398046511104) :
    Calls Tryz.prog 83 #[v, .int .i64 fin] w fun e w' => e = .returned (.pointer (some ⟨w.heap.size, 0, none⟩)) ∧ Rd w' w.heap.size ⟨l, fin, 0, 0⟩ ∧ Below w.heap.size w w' := by
  obtain ⟨a, c, rfl⟩ : ∃ a c, v = .slice a l.length c := by obtain ⟨_, _, a, c, rfl, _⟩ := h; exact ⟨a, c, rfl⟩
  go_enter Tryz.func83, Tryz.ntmps83
  go_wp2_with fail
  have hn := heap_alloc_new w (.cells #[.slice a l.length c, .int .i64 fin, .int .i64 0, .string ⟨#[]⟩, .int .i64 0, .int .i64 0, .int .i64 0] 120)
  have r0 : Rd0 (w.alloc (.cells #[.slice a l.length c, .int .i64 fin, .int .i64 0, .string ⟨#[]⟩, .int .i64 0, .int .i64 0, .int .i64 0] 120)) w.heap.size ⟨l, fin, 0, 0⟩ :=
    ⟨⟨_, _, _, _, hn, h.alloc _, hap, hcap⟩, hfew, by exact ⟨Nat.zero_le _, Nat.zero_le _⟩⟩
  refine (look_any _ _ _ r0).mono ?_
  rintro e w1 ⟨rfl, r1, o1⟩
  go_wp2_with fail
  go_ret
  exact ⟨rfl, r1, o1.to_below (Nat.le_refl _) ((Below.refl _ _).alloc (Nat.le_refl _) _) (by simp)⟩

theorem assertStop (W : World) (v : Value) : (Instr.typeAssert (.iface 108 v) 20 108 true).run Tryz.prog W = .ok (.tuple #[v, .bool true]) W := by kernel_rfl

theorem catch_idle (p q : Addr) (w : World) :
    CallsD Tryz.prog 82 #[.pointer (some p), .pointer (some q)] .returning w fun e u' w' => e = .returned (.tuple #[]) ∧ u' = .returning ∧ w' = w := by
  refine callsD_of_wpS Tryz.func82 rfl fun c₀ cs hu => ?_
  apply wpS_seq
  apply wpS_region
  simp [wpOpsS, go_sem, recoverD, hu, Tryz.ntmps82, Exit.thenS]
  have htm : #[Value.pointer (some p), Value.pointer (some q)] ++ ((Array.replicate 17 undef).setIfInBounds 3 (Value.nilIface)).setIfInBounds 0 (Value.nilIface) = #[.pointer (some p), .pointer (some q), Value.nilIface, undef, undef, Value.nilIface, undef, undef, undef, undef, undef, undef, undef, undef, undef, undef, undef, undef, undef] := by
    rw [show Array.replicate 17 undef = #[undef, undef, undef, undef, undef, undef, undef, undef, undef, undef, undef, undef, undef, undef, undef, undef, undef] from rfl]
    simp only [List.setIfInBounds_toArray, List.set_cons_succ, List.set_cons_zero, List.append_toArray, List.cons_append, List.nil_append]
  rw [htm]
  clear htm
  refine wpS_of_wp ?_
  go_wp2_with fail
  cases c₀
  simp_all [bodyPostS, results, Tryz.results82]

set_option maxRecDepth 20000 in
set_option maxHeartbeats 800000 in
theorem catch_stop (p q : Nat) (f : M.Flt) (older : List PanicEntry) (w : World) (v0 v1 v2 : Value) (hpq : p ≠ q) (hp : w.heap[p]? = some (.cells #[v0] 24 (0, 0))) (hq : w.heap[q]? = some (.cells #[v1, v2] 39 (0, 0))) :
    CallsD Tryz.prog 82 #[.pointer (some ⟨p, 0, none⟩), .pointer (some ⟨q, 0, none⟩)] (.panicking ({ v := .iface 108 (.agg #[.int .i64 f.1, .int .i64 f.2]), recovered := false } :: older)) w fun e u' w' =>
      e = .returned (.tuple #[]) ∧ u' = .panicking ({ v := .iface 108 (.agg #[.int .i64 f.1, .int .i64 f.2]), recovered := true } :: older) ∧ w'.heap[p]? = some (.cells #[.slice none 0 0] 24 (0, 0)) ∧ w'.heap[q]? = some (.cells #[.int .i64 f.1, .int .i64 f.2] 39 (0, 0)) ∧ ∀ B, B ≤ p → B ≤ q → B ≤ w.heap.size → Below B w w' := by
  have hta := fun W v => assertStop W v
  have cp := cell0 hp
  have cpf := Lib.frozen_of_heap hp 0
  have cq0 : w.cell? ⟨q, 0, none⟩ = some v1 := by rw [Lib.cell_of_heap hq]; rfl
  have cq1 : w.cell? ⟨q, 1, none⟩ = some v2 := by rw [Lib.cell_of_heap hq]; rfl
  have cqf := fun i => Lib.frozen_of_heap hq i
  have hlp := (Array.getElem?_eq_some_iff.1 hp).1
  have hlq := (Array.getElem?_eq_some_iff.1 hq).1
  have hpq1 : ¬ p = q := hpq
  have hpq2 : ¬ q = p := fun e => hpq e.symm
  refine callsD_of_wpS Tryz.func82 rfl fun c₀ cs hu => ?_
  apply wpS_seq
  apply wpS_region
  simp [wpOpsS, go_sem, recoverD, hu, Tryz.ntmps82, Exit.thenS]
  have htm : #[Value.pointer (some ⟨p, 0, none⟩), Value.pointer (some ⟨q, 0, none⟩)] ++ ((Array.replicate 17 undef).setIfInBounds 3 (Value.iface 108 (.agg #[.int .i64 f.1, .int .i64 f.2]))).setIfInBounds 0 (Value.iface 108 (.agg #[.int .i64 f.1, .int .i64 f.2])) = #[.pointer (some ⟨p, 0, none⟩), .pointer (some ⟨q, 0, none⟩), Value.iface 108 (.agg #[.int .i64 f.1, .int .i64 f.2]), undef, undef, Value.iface 108 (.agg #[.int .i64 f.1, .int .i64 f.2]), undef, undef, undef, undef, undef, undef, undef, undef, undef, undef, undef, undef, undef] := by
    rw [show Array.replicate 17 undef = #[undef, undef, undef, undef, undef, undef, undef, undef, undef, undef, undef, undef, undef, undef, undef, undef, undef] from rfl]
    simp only [List.setIfInBounds_toArray, List.set_cons_succ, List.set_cons_zero, List.append_toArray, List.cons_append, List.nil_append]
  rw [htm]
  clear htm
  refine wpS_of_wp ?_
  go_wp2_with fail
  go_region
  have hW : Below 0 w w := Below.refl _ _
  have e1 : ((w.setCell ⟨p, 0, none⟩ (.slice none 0 0)).setCell ⟨q, 0, none⟩ (.int .i64 f.1)).heap[q]? = some (.cells #[.int .i64 f.1, v2] 39 (0, 0)) :=
    heap_setCell_same _ _ _ _ _ _ ((Below.heap_setCell _ _ _ _ hpq2).trans hq)
  refine ⟨rfl, _, rfl, _, results_none rfl _ _ _, rfl, rfl, ?_, ?_, ?_⟩
  · show ((((w.setCell ⟨p, 0, none⟩ (.slice none 0 0)).setCell ⟨q, 0, none⟩ (.int .i64 f.1)).setCell ⟨q, 1, none⟩ (.int .i64 f.2)).alloc _).heap[p]? = _
    rw [Below.heap_alloc _ _ _ (by simpa [World.setCell] using hlp), Below.heap_setCell _ _ _ _ hpq1, Below.heap_setCell _ _ _ _ hpq1]
    exact heap_setCell_same _ _ _ _ _ _ hp
  · show ((((w.setCell ⟨p, 0, none⟩ (.slice none 0 0)).setCell ⟨q, 0, none⟩ (.int .i64 f.1)).setCell ⟨q, 1, none⟩ (.int .i64 f.2)).alloc _).heap[q]? = _
    rw [Below.heap_alloc _ _ _ (by simpa [World.setCell] using hlq)]
    exact heap_setCell_same _ _ _ _ _ _ e1
  · intro B h1 h2 h3
    exact ((((Below.refl B w).setCell (p := ⟨p, 0, none⟩) h1 _).setCell (p := ⟨q, 0, none⟩) h2 _).setCell (p := ⟨q, 1, none⟩) h2 _).alloc (by simpa [World.setCell] using h3) _ |>.drew
end Go.Proofs.YtkpmpnebmkeocaaGreatDoor
end
section
namespace Go.Proofs.YtkpmpnebmkeocaaGreatDoor
open Go.RowKit

def M.readR (l : List M.Tok) (fin : Int) : List M.Fn × M.Flt :=
  match M.read l fin with
  | .ok p => (p, (0, 0))
  | .error f => ([], f)

set_option maxRecDepth 8000 in
set_option maxHeartbeats 1600000 in
theorem read_any (v : Value) (l : List M.Tok) (fin : Int) (w : World) (h : TokAt w v l) (hap : ∀ b o n c, v = .slice (some ⟨b, o, none⟩) n c → b < w.heap.size) (hcap : ∀ a n c, v = .slice a n c → n ≤ c ∧ c ≤ maxLen) (hfew : l.length ≤ 4398046511104) :
    Calls Tryz.prog 60 #[v, .int .i64 fin] w fun e w' => Below w.heap.size w w' ∧ ∃ vf, e = .returned (.tuple #[.agg #[vf], .agg #[.int .i64 (M.readR l fin).2.1, .int .i64 (M.readR l fin).2.2]]) ∧ ProgAt w' (Old w) vf (M.readR l fin).1 := by
  have hmf : ∀ (fn : Fn) (first cap : Array Value) (w : World), (Instr.makeFunc fn first cap).run Tryz.prog w = .ok (.func fn first cap) w := fun _ _ _ _ => rfl
  have hb0 : Below w.heap.size w ((w.alloc zero1).alloc (.cells #[.int .i64 0, .int .i64 0] 39)) := ((Below.refl _ _).alloc (Nat.le_refl _) _).alloc (by simp) _
  have hp0 : ((w.alloc zero1).alloc (.cells #[.int .i64 0, .int .i64 0] 39)).heap[w.heap.size]? = some zero1 := (Below.heap_alloc _ _ _ (by simp)).trans (heap_alloc_new w _)
  have hq0 : ((w.alloc zero1).alloc (.cells #[.int .i64 0, .int .i64 0] 39)).heap[w.heap.size + 1]? = some (.cells #[.int .i64 0, .int .i64 0] 39) := by
    have := heap_alloc_new (w.alloc zero1) (.cells #[.int .i64 0, .int .i64 0] 39)
    simp only [World.size_alloc] at this; exact this
  have hz0 : ((w.alloc zero1).alloc (.cells #[.int .i64 0, .int .i64 0] 39)).heap.size = w.heap.size + 2 := by simp only [World.size_alloc]
  have ht0 := h.keep hb0
  generalize hwa : (w.alloc zero1).alloc (.cells #[.int .i64 0, .int .i64 0] 39) = wa at hb0 hp0 hq0 hz0 ht0
  have HWA := hid hwa
  have HZA := hid hz0
  clear hwa hz0
  go_enter_defers Tryz.func60, Tryz.ntmps60
  go_wp2_with fail
  have hg1 := HWA.out
  unfold zero1 at hg1
  rw [hg1]
  clear hg1
  have hzA := HZA.out
  refine (newReader_any v l fin _ ht0 (fun b o n c e => by have := hap b o n c e; omega) hcap hfew).mono ?_
  rintro e w1 ⟨rfl, r1, hb1⟩
  clear hzA
  go_wp2_with fail
  refine (program_any (l.length + 1) _ _ _ r1 (by show l.length ≤ _; omega)).mono ?_
  rintro e w2 ⟨o2, hok, herr⟩
  have hzA := HZA.out
  have hz1 := hb1.size
  have hz2 := o2.size
  have hw2 : Below (w.heap.size + 2) wa w2 := o2.to_below (by omega) (hb1.mono (by omega)) (by omega)
  have hp2 := (hw2.block w.heap.size (by omega)).trans hp0
  have hq2 := (hw2.block (w.heap.size + 1) (by omega)).trans hq0
  have hbw : Below w.heap.size w w2 := hb0.trans (hw2.mono (by omega))
  cases hfs : M.funcs (l.length + 1) (l.length + 1) ⟨l, fin, 0, 0⟩ [] with
  | error f =>
    obtain rfl := herr f hfs
    have hR : M.readR l fin = ([], f) := by unfold M.readR M.read; rw [hfs]
    refine leaves_cons (f := 82) (args := #[.pointer (some ⟨w.heap.size, 0, none⟩), .pointer (some ⟨w.heap.size + 1, 0, none⟩)]) (by simp) (by simp [go_sem]) ?_
    refine (catch_stop w.heap.size (w.heap.size + 1) f [] _ _ _ _ (by omega) hp2 hq2).mono ?_
    rintro e u' w3 ⟨rfl, rfl, hp3, hq3, hb3⟩
    have cp := cell0 hp3
    have cq0 : w3.cell? ⟨w.heap.size + 1, 0, none⟩ = some (.int .i64 f.1) := by rw [Lib.cell_of_heap hq3]; rfl
    have cq1 : w3.cell? ⟨w.heap.size + 1, 1, none⟩ = some (.int .i64 f.2) := by rw [Lib.cell_of_heap hq3]; rfl
    have hbb := hbw.trans (hb3 w.heap.size (Nat.le_refl _) (by omega) (by omega))
    simp [Leaves, settle, results, Tryz.results60, go_sem, cp, cq0, cq1]
    rw [hR]
    exact ⟨hbb, _, ⟨rfl, rfl, rfl⟩, [], SlAt.nil _ _, rfl⟩
  | ok p =>
    obtain ⟨S2, l2⟩ := p
    obtain ⟨v2, rfl, r2, vf, rfl, hP⟩ := hok S2 l2 hfs
    obtain ⟨av, cv, rfl⟩ : ∃ a c, vf = .slice a l2.length c := by obtain ⟨_, h1, _⟩ := hP; exact SlAt.form h1
    have hR : M.readR l fin = (l2, (0, 0)) := by unfold M.readR M.read; rw [hfs]
    have cp := cell0 hp2
    have cpf := Lib.frozen_of_heap hp2 0
    have cq0 : w2.cell? ⟨w.heap.size + 1, 0, none⟩ = some (.int .i64 0) := by rw [Lib.cell_of_heap hq2]; rfl
    have cq1 : w2.cell? ⟨w.heap.size + 1, 1, none⟩ = some (.int .i64 0) := by rw [Lib.cell_of_heap hq2]; rfl
    have cqf := fun i => Lib.frozen_of_heap hq2 i
    clear hok herr hzA
    go_wp2_with fail
    have hzA := HZA.out
    refine leaves_cons (f := 82) (args := #[.pointer (some ⟨w.heap.size, 0, none⟩), .pointer (some ⟨w.heap.size + 1, 0, none⟩)]) (by simp) (by simp [go_sem]) ?_
    refine (catch_idle _ _ _).mono ?_
    rintro e u' w3 ⟨rfl, rfl, rfl⟩
    have hbb : Below w.heap.size w (((w2.setCell ⟨w.heap.size, 0, none⟩ (.slice av l2.length cv)).setCell ⟨w.heap.size + 1, 0, none⟩ (.int .i64 0)).setCell ⟨w.heap.size + 1, 1, none⟩ (.int .i64 0)) :=
      ((hbw.setCell (p := ⟨w.heap.size, 0, none⟩) (Nat.le_refl _) _).setCell (p := ⟨w.heap.size + 1, 0, none⟩) (Nat.le_succ _) _).setCell (p := ⟨w.heap.size + 1, 1, none⟩) (Nat.le_succ _) _
    have hk : Keep (Old w1) w2 (((w2.setCell ⟨w.heap.size, 0, none⟩ (.slice av l2.length cv)).setCell ⟨w.heap.size + 1, 0, none⟩ (.int .i64 0)).setCell ⟨w.heap.size + 1, 1, none⟩ (.int .i64 0)) :=
      ((keep_set (X := Old w1) (p := ⟨w.heap.size, 0, none⟩) (by show w.heap.size < w1.heap.size; omega) _).trans (keep_set (p := ⟨w.heap.size + 1, 0, none⟩) (by show w.heap.size + 1 < w1.heap.size; omega) _)).trans (keep_set (p := ⟨w.heap.size + 1, 1, none⟩) (by show w.heap.size + 1 < w1.heap.size; omega) _)
    have hP2 := (hP.keep hk).weak (Y := Old w) fun b _ hx hy => hx (by have h1 : b < w.heap.size := hy; show b < w1.heap.size; omega)
    clear hzA
    simp [Leaves, settle, results, Tryz.results60, go_sem, cp, cq0, cq1]
    rw [hR]
    exact ⟨hbb, _, ⟨rfl, rfl, rfl⟩, hP2⟩
end Go.Proofs.YtkpmpnebmkeocaaGreatDoor
end
section
namespace Go.Proofs.YtkpmpnebmkeocaaGreatDoor
open Go.RowKit

def M.parseR (s : List UInt8) : List M.Fn × M.Flt :=
  if (M.lex s).2.1 = 0 then M.readR (M.lex s).1 s.length else ([], (M.lex s).2)

theorem lexed {w w1 : World} {v : Value} {l : List UInt8} (hb : Below w.heap.size w w1) (h : w1.ownsRow w.heap.size 69 3 v (M.lex l).1.length (M.row (M.lex l).1)) :
    TokAt w1 v (M.lex l).1 ∧ (∀ b o n c, v = .slice (some ⟨b, o, none⟩) n c → b < w1.heap.size) ∧ (∀ a n c, v = .slice a n c → n ≤ c ∧ c ≤ maxLen) ∧ (M.lex l).1.length ≤ 4398046511104 := by
  obtain ⟨h1, h2⟩ := M.lex_small l
  refine ⟨lex_tokAt h, ?_, ?_, by omega⟩
  · intro b o n c e
    rcases h.2 with ⟨rfl, _⟩ | ⟨g, cap, cur, rfl, _, hh, _⟩
    · cases e
    · simp at e
      obtain ⟨⟨rfl, _⟩, _⟩ := e
      exact (Array.getElem?_eq_some_iff.1 hh).1
  · intro a n c e
    rcases h.2 with ⟨rfl, _⟩ | ⟨g, cap, cur, rfl, _, hh, hn, hc, _⟩
    · simp at e
      obtain ⟨_, rfl, rfl⟩ := e
      exact ⟨Nat.le_refl _, Nat.zero_le _⟩
    · simp at e
      obtain ⟨_, rfl, rfl⟩ := e
      exact ⟨hn, hc⟩

theorem res_parse {tm : Array Value} {W : World} {g k : Nat} {v0 a b : Value} (ht : tm.getD 2 undef = .pointer (some ⟨g, 0, none⟩)) (ht2 : tm.getD 3 undef = .pointer (some ⟨k, 0, none⟩)) (h : W.heap[g]? = some (.cells #[v0] 24 (0, 0))) (h2 : W.heap[k]? = some (.cells #[a, b] 39 (0, 0))) :
    (results Tryz.f34 tm).run Tryz.prog W = .ok (.tuple #[.agg #[v0], .agg #[a, b]]) W := by
  have k0 := cell0 h
  have k1 : W.cell? ⟨k, 0, none⟩ = some a := by rw [Lib.cell_of_heap h2]; rfl
  have k2 : W.cell? ⟨k, 1, none⟩ = some b := by rw [Lib.cell_of_heap h2]; rfl
  simp only [Array.getD_eq_getD_getElem?] at ht ht2
  simp [results, Tryz.results34, go_sem, ht, ht2, k0, k1, k2]
theorem laid2 {W : World} {p : Nat} {v0 v1 v2 a b c : Value} (hp : W.heap[p]? = some (.cells #[v0] 24 (0, 0))) (hq : W.heap[p + 1]? = some (.cells #[v1, v2] 39 (0, 0))) :
    (((W.setCell ⟨p, 0, none⟩ a).setCell ⟨p + 1, 0, none⟩ b).setCell ⟨p + 1, 1, none⟩ c).heap[p]? = some (.cells #[a] 24 (0, 0)) ∧ (((W.setCell ⟨p, 0, none⟩ a).setCell ⟨p + 1, 0, none⟩ b).setCell ⟨p + 1, 1, none⟩ c).heap[p + 1]? = some (.cells #[b, c] 39 (0, 0)) := by
  have hn : p ≠ p + 1 := by omega
  have hn' : p + 1 ≠ p := by omega
  have e1 : ((W.setCell ⟨p, 0, none⟩ a).setCell ⟨p + 1, 0, none⟩ b).heap[p + 1]? = some (.cells #[b, v2] 39 (0, 0)) := heap_setCell_same _ _ _ _ _ _ ((Below.heap_setCell _ _ _ _ hn').trans hq)
  refine ⟨?_, heap_setCell_same _ _ _ _ _ _ e1⟩
  rw [Below.heap_setCell _ _ _ _ hn, Below.heap_setCell _ _ _ _ hn]
  exact heap_setCell_same _ _ _ _ _ _ hp

set_option maxRecDepth 8000 in
set_option maxHeartbeats 1600000 in
theorem parse_any (s : ByteArray) (w : World) (hs : s.size ≤ maxLen) :
    Calls Tryz.prog 34 #[.string s] w fun e w' => Below w.heap.size w w' ∧ ∃ vf, e = .returned (.tuple #[.agg #[vf], .agg #[.int .i64 (M.parseR s.data.toList).2.1, .int .i64 (M.parseR s.data.toList).2.2]]) ∧ ProgAt w' (Old w) vf (M.parseR s.data.toList).1 := by
  have hs' := hs
  unfold maxLen at hs'
  have hb0 : Below w.heap.size w ((w.alloc zero1).alloc (.cells #[.int .i64 0, .int .i64 0] 39)) := ((Below.refl _ _).alloc (Nat.le_refl _) _).alloc (by simp) _
  have hp0 : ((w.alloc zero1).alloc (.cells #[.int .i64 0, .int .i64 0] 39)).heap[w.heap.size]? = some zero1 := (Below.heap_alloc _ _ _ (by simp)).trans (heap_alloc_new w _)
  have hq0 : ((w.alloc zero1).alloc (.cells #[.int .i64 0, .int .i64 0] 39)).heap[w.heap.size + 1]? = some (.cells #[.int .i64 0, .int .i64 0] 39) := by
    have := heap_alloc_new (w.alloc zero1) (.cells #[.int .i64 0, .int .i64 0] 39)
    simp only [World.size_alloc] at this; exact this
  have hz0 : ((w.alloc zero1).alloc (.cells #[.int .i64 0, .int .i64 0] 39)).heap.size = w.heap.size + 2 := by simp only [World.size_alloc]
  generalize hwa : (w.alloc zero1).alloc (.cells #[.int .i64 0, .int .i64 0] 39) = wa at hb0 hp0 hq0 hz0
  have HWA := hid hwa
  have HZA := hid hz0
  clear hwa hz0
  go_enter Tryz.func34, Tryz.ntmps34
  go_wp2_with fail
  have hg1 := HWA.out
  unfold zero1 at hg1
  rw [hg1]
  clear hg1
  refine (lex_any s _ hs).mono ?_
  rintro e w1 ⟨v1, rfl, own1, hb1⟩
  obtain ⟨ht1, hap1, hcap1, hfew1⟩ := lexed hb1 own1
  obtain ⟨av, cv, rfl⟩ := own_form own1
  have hzA := HZA.out
  have hz1 := hb1.size
  have hp1 := (hb1.block w.heap.size (by omega)).trans hp0
  have hq1 := (hb1.block (w.heap.size + 1) (by omega)).trans hq0
  have cp := cell0 hp1
  have cpf := Lib.frozen_of_heap hp1 0
  have cq0 : w1.cell? ⟨w.heap.size + 1, 0, none⟩ = some (.int .i64 0) := by rw [Lib.cell_of_heap hq1]; rfl
  have cq1 : w1.cell? ⟨w.heap.size + 1, 1, none⟩ = some (.int .i64 0) := by rw [Lib.cell_of_heap hq1]; rfl
  have cqf := fun i => Lib.frozen_of_heap hq1 i
  have hn1 : ¬ w.heap.size = w1.heap.size := by omega
  have hn2 : ¬ w.heap.size + 1 = w1.heap.size := by omega
  have hl1 : w.heap.size < w1.heap.size := by omega
  have hl2 : w.heap.size + 1 < w1.heap.size := by omega
  have hbw1 : Below w.heap.size w w1 := hb0.trans (hb1.mono (by omega))
  clear hzA
  by_cases hc : (M.lex s.data.toList).2.1 = 0
  · have HP : Hid (M.parseR s.data.toList = M.readR (M.lex s.data.toList).1 s.data.toList.length) := by unfold Hid M.parseR; rw [if_pos hc]
    go_wp2_with fail
    refine (read_any _ (M.lex s.data.toList).1 _ _ (ht1.alloc _) (fun b o n c e => by have := hap1 b o n c e; rw [World.size_alloc]; omega) hcap1 hfew1).mono ?_
    rintro e w2 ⟨hb2, vf, rfl, hP⟩
    have hsz : s.data.toList.length = s.size := len_list s
    rw [hsz] at HP
    obtain ⟨af, cf, rfl⟩ : ∃ a c, vf = .slice a (M.readR (M.lex s.data.toList).1 s.size).1.length c := by obtain ⟨_, h1, _⟩ := hP; exact SlAt.form h1
    have hz2 := hb2.size
    rw [World.size_alloc] at hz2
    have hb12 : Below w1.heap.size w1 w2 := ((Below.refl _ _).alloc (Nat.le_refl _) _).trans (hb2.mono (by rw [World.size_alloc]; omega))
    have hp2 := (hb12.block w.heap.size hl1).trans hp1
    have hq2 := (hb12.block (w.heap.size + 1) hl2).trans hq1
    clear cp cpf cq0 cq1 cqf
    have cp := cell0 hp2
    have cpf := Lib.frozen_of_heap hp2 0
    have cq0 : w2.cell? ⟨w.heap.size + 1, 0, none⟩ = some (.int .i64 0) := by rw [Lib.cell_of_heap hq2]; rfl
    have cq1 : w2.cell? ⟨w.heap.size + 1, 1, none⟩ = some (.int .i64 0) := by rw [Lib.cell_of_heap hq2]; rfl
    have cqf := fun i => Lib.frozen_of_heap hq2 i
    have HS := hid hsz
    clear hsz
    go_wp2_with fail
    obtain ⟨e1, e2⟩ := laid2 (a := .slice af (M.readR (M.lex s.data.toList).1 s.size).1.length cf) (b := .int .i64 (M.readR (M.lex s.data.toList).1 s.size).2.1) (c := .int .i64 (M.readR (M.lex s.data.toList).1 s.size).2.2) hp2 hq2
    refine bodyPost_ret (res_parse (by rfl) (by rfl) e1 e2) rfl ⟨?_, _, by rw [HP.out], ?_⟩
    · exact (((hbw1.trans (hb12.mono (by omega))).setCell (p := ⟨w.heap.size, 0, none⟩) (Nat.le_refl _) _).setCell (p := ⟨w.heap.size + 1, 0, none⟩) (Nat.le_succ _) _).setCell (p := ⟨w.heap.size + 1, 1, none⟩) (Nat.le_succ _) _
    · rw [HP.out]
      refine (hP.keep (((keep_set (p := ⟨w.heap.size, 0, none⟩) ?_ _).trans (keep_set (p := ⟨w.heap.size + 1, 0, none⟩) ?_ _)).trans (keep_set (p := ⟨w.heap.size + 1, 1, none⟩) ?_ _))).weak fun b _ hx hy => hx ?_
      · show w.heap.size < (w1.alloc _).heap.size; rw [World.size_alloc]; omega
      · show w.heap.size + 1 < (w1.alloc _).heap.size; rw [World.size_alloc]; omega
      · show w.heap.size + 1 < (w1.alloc _).heap.size; rw [World.size_alloc]; omega
      · show b < (w1.alloc _).heap.size; rw [World.size_alloc]; have : b < w.heap.size := hy; omega
  · have HP : Hid (M.parseR s.data.toList = ([], (M.lex s.data.toList).2)) := by unfold Hid M.parseR; rw [if_neg hc]
    have hcb : ((M.lex s.data.toList).2.1 != 0) = true := by simpa using hc
    go_wp2_with fail
    go_region
    go_wp2_with fail
    obtain ⟨e1, e2⟩ := laid2 (a := .slice none 0 0) (b := .int .i64 (M.lex s.data.toList).2.1) (c := .int .i64 (M.lex s.data.toList).2.2) hp1 hq1
    refine bodyPost_ret (res_parse (by rfl) (by rfl) ((Below.heap_alloc _ _ _ (by simpa [World.setCell] using hl1)).trans e1) ((Below.heap_alloc _ _ _ (by simpa [World.setCell] using hl2)).trans e2)) rfl ⟨?_, _, by rw [HP.out], ?_⟩
    · exact ((((hbw1.setCell (p := ⟨w.heap.size, 0, none⟩) (Nat.le_refl _) _).setCell (p := ⟨w.heap.size + 1, 0, none⟩) (Nat.le_succ _) _).setCell (p := ⟨w.heap.size + 1, 1, none⟩) (Nat.le_succ _) _).alloc (by simp [World.setCell]; omega) _).drew
    · rw [HP.out]
      exact ⟨[], SlAt.nil _ _, rfl⟩
end Go.Proofs.YtkpmpnebmkeocaaGreatDoor
end
