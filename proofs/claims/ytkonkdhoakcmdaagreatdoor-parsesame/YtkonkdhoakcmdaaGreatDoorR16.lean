/-
  The walk of a reader's program. Conditions: those that each fact names.
-/
import Derived.Test.YtkonkdhoakcmdaaGreatDoorR15
set_option linter.unusedVariables false
namespace Go.Proofs.YtkonkdhoakcmdaaGreatDoor
open Go.RowKit

def prgEnc (w0 : World) : List M.Fn → Value → World → Prop := fun l v w => ∃ vf, v = .agg #[vf] ∧ ProgAt w (Old w0) vf l
abbrev zero1 : Obj := .cells #[.slice none 0 0] 25
theorem infoFn : (Tryz.prog.info? 56).map (fun i => (i.zero, i.size, i.bytes)) = some (some (.agg #[.string ⟨#[]⟩, .slice none 0 0, .slice none 0 0]), 3, 64) := by kernel_rfl
theorem res_program {tm : Array Value} {W : World} {g : Nat} {v0 : Value} (ht : tm.getD 2 undef = .pointer (some ⟨g, 0, none⟩)) (h : W.heap[g]? = some (.cells #[v0] 25 (0, 0))) :
    (results Tryz.f17 tm).run Tryz.prog W = .ok (.agg #[v0]) W := by
  have k0 := cell0 h
  simp only [Array.getD_eq_getD_getElem?] at ht
  simp [results, Tryz.results17, go_sem, ht, k0]

def AvoidN (base : Nat) (v : Value) : Nat → Prop := fun b => b < base ∨ v.ownBlock = some b

/-- a function more in the row -/
theorem fns_step {r g n cap base : Nat} {wr w3 w5 : World} {v : Value} {acc : List M.Fn} {cs : List Value} {obj : Obj} {f : M.Fn} {vp vb : Value}
    (hr : r < base) (hb : base ≤ wr.heap.size) (own : wr.ownsRow base 56 3 v acc.length cs) (row : FnsAt wr (AvoidN base v) cs acc) (o3 : Only r wr w3)
    (hP : StrsAt w3 (Old wr) vp f.ps) (hT : StmAt w3 (Old wr) vb f.body)
    (hgrow : (w3.alloc obj).grownBy w5 v.ownBlock) (hat : v.ownBlock = some g ∨ g = w3.heap.size + 1) :
    FnsAt w5 (AvoidN base (.slice (some ⟨g, 0, none⟩) n cap)) (cs ++ [.string f.name, vp, vb]) (acc ++ [f]) := by
  have hza : (w3.alloc obj).heap.size = w3.heap.size + 1 := World.size_alloc _ _
  have hob : ∀ k, v.ownBlock = some k → base ≤ k ∧ k < wr.heap.size := fun k hk => own.lt k hk
  have hz3 := o3.size
  have row3 : FnsAt (w3.alloc obj) (AvoidN base v) cs acc := FnsAt.keep (Below.keepX ((Below.refl _ _).alloc (Nat.le_refl _) obj)) (FnsAt.keep (o3.keep (.inl hr)) row)
  have new3 : FnsAt (w3.alloc obj) (Old wr) [.string f.name, vp, vb] [f] :=
    FnsAt.keep (Below.keepX ((Below.refl _ _).alloc (Nat.le_refl _) obj)) ⟨vp, vb, [], rfl, hP, hT, rfl⟩
  have hweak : ∀ b, b < (w3.alloc obj).heap.size → (¬ AvoidN base v b ∨ ¬ Old wr b) → ¬ (b < base ∨ v.ownBlock = some b ∨ b = g) := by
    intro b hb' hx hy
    rw [hza] at hb'
    have h1 : ¬ (b < base ∨ v.ownBlock = some b) := by
      intro h2
      rcases hx with hx | hx
      · exact hx h2
      · apply hx
        rcases h2 with h2 | h2
        · exact Nat.lt_of_lt_of_le h2 hb
        · exact (hob b h2).2
    rcases hy with hy | hy | rfl
    · exact h1 (.inl hy)
    · exact h1 (.inr hy)
    · rcases hat with hat | hat
      · exact h1 (.inr hat)
      · omega
  have hx := FnsAt.app (FnsAt.weak (Y := fun b => b < base ∨ v.ownBlock = some b ∨ b = g) (fun b hb hx => hweak b hb (.inl hx)) row3) (FnsAt.weak (fun b hb hx => hweak b hb (.inr hx)) new3)
  refine FnsAt.weak ?_ (FnsAt.keep (keep_grown hgrow fun k hk => .inr (.inl hk)) hx)
  intro b _ hx hy
  apply hx
  rcases hy with hy | hy
  · exact .inl hy
  · simp only [Value.ownBlock, Option.some.injEq] at hy
    exact .inr (.inr hy.symm)

/-- what program has in its hands in a round -/
structure PrgIn (r N : Nat) (w wr : World) (k : Nat) (v : Value) (S2 : M.St) (acc : List M.Fn) (cs : List Value) : Prop where
  rd : Rd wr r S2
  only : Only r (w.alloc zero1) wr
  boxL : wr.heap[w.heap.size + 1]? = some (.cells #[v] 25 (0, 0))
  own : wr.ownsRow (w.heap.size + 2) 56 3 v acc.length cs
  row : FnsAt wr (AvoidN (w.heap.size + 2) v) cs acc
  bs : w.heap.size + 2 ≤ wr.heap.size
  lt : S2.rest.length < k
  le : S2.rest.length ≤ N
  few : 2 * acc.length + S2.rest.length ≤ 4398046511104

set_option maxRecDepth 8000 in
set_option maxHeartbeats 1600000 in
theorem program_any (N : Nat) (r : Nat) (S : M.St) (w : World) (h : Rd w r S) (hN : S.rest.length ≤ N) :
    Calls Tryz.prog 17 #[.pointer (some ⟨r, 0, none⟩)] w (Ends r w (prgEnc w) (M.funcs N (S.rest.length + 1) S [])) := by
  have hlt := h.lt
  obtain ⟨i0, hi0, hz0, hz1, hz2⟩ := info_parts infoFn
  have ha := (h.alloc zero1).alloc zero1
  have oa : Only r (w.alloc zero1) ((w.alloc zero1).alloc zero1) := (Only.refl r _).alloc _
  have hL0 : ((w.alloc zero1).alloc zero1).heap[w.heap.size + 1]? = some zero1 := by
    have := heap_alloc_new (w.alloc zero1) zero1
    simp only [World.size_alloc] at this; exact this
  have o0 : Only r w (w.alloc zero1) := (Only.refl r w).alloc _
  have hg0 := heap_alloc_new w zero1
  have hzz : ((w.alloc zero1).alloc zero1).heap.size = w.heap.size + 2 := by simp only [World.size_alloc]
  have hz1' : (w.alloc zero1).heap.size = w.heap.size + 1 := World.size_alloc _ _
  go_enter Tryz.func17, Tryz.ntmps17
  go_wp2_with fail
  go_loopg [] (S.rest.length + 1) (fun k wr => ∃ v S2 acc cs, PrgIn r N w wr k v S2 acc cs ∧ Hid (M.funcs N (S.rest.length + 1) S [] = M.funcs N k S2 acc))
  case atStart =>
    exact ⟨_, S, [], [], ⟨ha, oa, hL0, World.ownsRow_nil _ _ _ _, rfl, by rw [hzz]; omega, Nat.lt_succ_self _, hN, by simpa using h.few⟩, rfl⟩
  case round =>
    obtain ⟨v, S2, acc, cs, ⟨rd, only, boxL, own, row, bs, hkl, hle, few⟩, HM⟩ := hrel
    obtain ⟨⟨vr, hh, htc⟩, _, _⟩ := id rd
    obtain ⟨cv, cfin, ck, ct, cp, cn5, cd6, cfree, clt⟩ := cells7 hh
    obtain ⟨⟨tl1, tl2, ta, tcap, rfl, hT⟩, hap, hcap⟩ := htc
    have cL := cell0 boxL
    have hg := (only.block w.heap.size (by rw [hz1']; omega) (by omega)).trans hg0
    cases gk with
    | zero => exact absurd hkl (by omega)
    | succ k =>
      by_cases hempty : S2.rest = []
      · have HM2 : Hid (M.funcs N (S.rest.length + 1) S [] = .ok (S2, acc)) := by
          unfold Hid; rw [HM.out]; simp [M.funcs, hempty]
        have hl0 : S2.rest.length = 0 := by rw [hempty]; rfl
        rw [hl0] at cv
        obtain ⟨av, cvv, rfl⟩ := own_form own
        have cg := cell0 hg
        have cgf := Lib.frozen_of_heap hg 0
        clear hz1' hzz
        go_wp2_with fail
        have hset : (wr.setCell ⟨w.heap.size, 0, none⟩ (.slice av acc.length cvv)).heap[w.heap.size]? = some (.cells #[.slice av acc.length cvv] 25 (0, 0)) := heap_setCell_same _ _ _ _ _ _ hg
        refine ret8 (enc := prgEnc w) (res := M.funcs N (S.rest.length + 1) S []) (S' := S2) (a := acc) (res_program (by rfl) hset) HM2.out ((o0.trans only).setCell (.inr (Nat.le_refl _)) _) (rd.setCell (by show r < w.heap.size; exact hlt) _) ⟨_, rfl, cs, ?_, ?_⟩
        · exact ((SlAt.of_owns (X := fun b => b < w.heap.size + 2) own (fun b hb hx => by omega) (by omega)).keep (keep_set (by show w.heap.size < _; omega) _)).weak fun b _ hx hy => hx (by have : b < w.heap.size := hy; omega)
        · exact FnsAt.weak (fun b _ hx hy => hx (.inl (by have : b < w.heap.size := hy; omega))) (FnsAt.keep (keep_set (p := ⟨w.heap.size, 0, none⟩) (.inl (by show w.heap.size < w.heap.size + 2; omega)) _) row)
      · have hpos : 0 < S2.rest.length := List.length_pos_iff.2 hempty
        have hgt : (0 : Int) < (S2.rest.length : Int) := by omega
        have HM2 : Hid (M.funcs N (S.rest.length + 1) S [] = M.bnd (M.function N S2) fun S1 f => M.funcs N k S1 (acc ++ [f])) := by
          unfold Hid; rw [HM.out]; simp [M.funcs, hempty]
        have hLr : w.heap.size + 1 ≠ r := by omega
        have hlL : w.heap.size + 1 < wr.heap.size := by omega
        clear hz1' hzz
        cases hfn : M.function N S2 with
        | error f =>
          have hcall : Calls Tryz.prog 30 #[.pointer (some ⟨r, 0, none⟩)] wr.drew fun e w' => e = .panicked (stopOf f) ∧ Only r wr w' :=
            (function_any N r S2 _ rd.drew hle).mono fun e w' ⟨o1, _, h2⟩ => ⟨h2 f hfn, (Only.refl r wr).drew.trans o1⟩
          go_wp2_with fail
          refine wp_region_held_drew (S := fun w' => w'.cell? ⟨w.heap.size + 1, 0, none⟩ = some v) (by kernel_rfl) cL (fun hHeld => ?_)
          refine wpAnyH_take (i := 0) (oi := _) (v := .pointer (some ⟨w.heap.size + 1, 0, none⟩)) rfl (by kernel_rfl) (by kernel_rfl) (by kernel_rfl) (fun _ _ _ h => h) (Or.inl ⟨by rfl, ?_⟩) hHeld ?_
          · intro w hSw
            try dsimp only at hSw
            go_simp
          simp only [Act.put, List.setIfInBounds_toArray]
          refine wpAnyH_take (i := 1) (oi := _) (v := v) rfl (by kernel_rfl) (by kernel_rfl) (by kernel_rfl) (fun _ _ _ h => h) (Or.inl ⟨by rfl, ?_⟩) hHeld ?_
          · intro w hSw
            try dsimp only at hSw
            go_simp
          simp only [Act.put]
          refine wpAnyH_take (i := 2) (oi := _) (v := .pointer (some ⟨r, 0, none⟩)) rfl (by kernel_rfl) (by kernel_rfl) (by kernel_rfl) (fun _ _ _ h => h) (Or.inl ⟨by rfl, ?_⟩) hHeld ?_
          · intro w hSw
            try dsimp only at hSw
            go_simp
          simp only [Act.put]
          refine wpAnyH_ready (rs := [3]) (by kernel_rfl) (by simp) ?_
          refine AllReadyH.cons rfl (fun K hK => ?_) AllReadyH.nil
          go_simp
          refine hcall.mono ?_
          rintro e w4 ⟨rfl, o4⟩
          exact ⟨rfl, Ends.err (by rw [HM2.out, hfn]; rfl) (o0.trans (only.trans o4))⟩
        | ok p =>
          obtain ⟨S3, f⟩ := p
          have hsh := M.function_short hfn
          have hcall : Calls Tryz.prog 30 #[.pointer (some ⟨r, 0, none⟩)] wr.drew fun e w' => (∃ ap cp ab cb, e = .returned (.agg #[.string f.name, .slice ap f.ps.length cp, .slice ab f.body.len cb]) ∧ StrsAt w' (Old wr) (.slice ap f.ps.length cp) f.ps ∧ StmAt w' (Old wr) (.slice ab f.body.len cb) f.body) ∧ Rd w' r S3 ∧ Only r wr w' ∧ w'.heap[w.heap.size + 1]? = some (.cells #[v] 25 (0, 0)) ∧ w'.ownsRow (w.heap.size + 2) 56 3 v acc.length cs :=
            (function_any N r S2 _ rd.drew hle).mono fun e w' ⟨o1, h1, _⟩ => by
              obtain ⟨v1, rfl, q1, vp, vb, rfl, hP, hT⟩ := h1 S3 f hfn
              obtain ⟨ap, cp, rfl⟩ := SlAt.form hP
              obtain ⟨ab, cb, rfl⟩ := StmAt.form hT
              have o3 : Only r wr w' := (Only.refl r wr).drew.trans o1
              exact ⟨⟨ap, cp, ab, cb, rfl, hP, hT⟩, q1, o3, (o3.block _ hlL hLr).trans boxL, ownsRow_only own o3 (by omega)⟩
          have hm63 : acc.length + 1 ≤ maxLen := by unfold maxLen; omega
          have hmby : (acc.length + 1) * 64 ≤ 140737488355328 := by omega
          have hvL : v.ownBlock ≠ some (w.heap.size + 1) := fun e => by have := (own.lt _ e).1; omega
          go_wp2_with fail
          go_region_law
            (first
              | (refine step_append_lies _ (by rfl) _ _ _ (by rfl) (w.heap.size + 2) 56 i0 _ 3 64 Tryz.underlying23 hi0 hz0 hz1 hz2 rfl (by omega) v acc.length cs (by rfl) (own1.alloc _)
                  ⟨w1.heap.size, 0, none⟩ 1 1 [.string f.name, .slice ap f.ps.length cp, .slice ab f.body.len cb] (by rfl) (by rfl) (World.news_of_block (cs := #[.string f.name, .slice ap f.ps.length cp, .slice ab f.body.len cb]) (t := 56) (fr := (0, 0)) (heap_alloc_new w1 _)) (by simp [Value.oneCell'])
                  Nat.one_pos hm63 hmby (by rw [World.size_alloc]; omega) (w1.heap.size + 1) (World.size_alloc _ _) ?_; intro gg cap' w2 hown2 hgrow hat hlt2; have bL2 := (hgrow.block (w.heap.size + 1) (by rw [World.size_alloc]; omega) (Ne.symm hvL)).trans ((Below.heap_alloc _ _ _ (by omega)).trans bL1); have hfz2 := Lib.frozen_of_heap bL2 0; have cL2 := cell0 bL2)
              | (go_simp; go_at_call 30; refine hcall.mono ?_; rintro e w1 ⟨⟨ap, cp, ab, cb, rfl, hP, hT⟩, r1, o1, bL1, own1⟩; have hsz1 := o1.size; have cL1 := cell0 bL1; have hlL1 : w.heap.size + 1 < w1.heap.size := (by omega)))
          all_goals
            go_wp2_with fail
            obtain ⟨g1, g2, g3, g4, g5, g6⟩ := grow_step (c := 0) (only.trans o1) (by rw [World.size_alloc]; omega) (by rw [World.size_alloc]; omega) (by omega) bL1 own1 hgrow (by omega) (.slice (some ⟨gg, 0, none⟩) (acc.length + 1) cap')
            go_roundg k
            case measure => omega
            case rel =>
              refine ⟨_, S3, acc ++ [f], _, ⟨g2 _ r1, g1, g3, ?_, FnsAt.keep (keep_set (p := ⟨w.heap.size + 1, 0, none⟩) (.inl (by show w.heap.size + 1 < w.heap.size + 2; omega)) _) (fns_step (n := acc.length + 1) (cap := cap') (by omega) bs own row o1 hP hT hgrow hat), by omega, by omega, by omega, ?_⟩, ?_⟩
              · have := g6 hown2 (by omega)
                simpa using this
              · simp only [List.length_append, List.length_cons, List.length_nil]; omega
              · unfold Hid; rw [HM2.out, hfn]; rfl
end Go.Proofs.YtkonkdhoakcmdaaGreatDoor
