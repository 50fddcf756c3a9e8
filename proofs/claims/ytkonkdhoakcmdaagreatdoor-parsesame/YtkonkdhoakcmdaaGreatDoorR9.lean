/-
  The walk of a reader's object: what stands behind new. No conditions.
-/
import Derived.Test.YtkonkdhoakcmdaaGreatDoorR8
set_option linter.unusedVariables false
namespace Go.Proofs.YtkonkdhoakcmdaaGreatDoor
open Go.RowKit

def valEnc (w0 : World) : M.Val → Value → World → Prop := fun x v w => ∃ va vp, v = .agg #[.int .i64 x.op, .string ⟨#[]⟩, .string x.y, .string x.p, va, vp, .slice none 0 0, .slice none 0 0] ∧ OpsAt w (Old w0) va x.a ∧ StrsAt w (Old w0) vp x.pr

/-- a block of eight cells that are zero -/
abbrev zero8 : Obj := .cells #[.int .i64 0, .string ⟨#[]⟩, .string ⟨#[]⟩, .string ⟨#[]⟩, .slice none 0 0, .slice none 0 0, .slice none 0 0, .slice none 0 0] 59

set_option maxRecDepth 8000 in
set_option maxHeartbeats 1600000 in
theorem object_any (r : Nat) (S : M.St) (w : World) (h : Rd w r S) :
    Calls Tryz.prog 86 #[.pointer (some ⟨r, 0, none⟩)] w (Ends r w (valEnc w) (M.object S)) := by
  have hlt := h.lt
  have hmf : ∀ (fn : Fn) (first cap : Array Value) (w : World), (Instr.makeFunc fn first cap).run Tryz.prog w = .ok (.func fn first cap) w := fun _ _ _ _ => rfl
  obtain ⟨j0, hj0, hy0, hy1, hy2⟩ := info_parts infoOpd
  have ha := ((h.alloc (.cells #[.pointer (some ⟨r, 0, none⟩)] 40)).alloc zero8).alloc (.cells #[.int .i64 4, .string ⟨#[]⟩, .string ⟨#[]⟩, .string ⟨#[]⟩, .slice none 0 0, .slice none 0 0, .slice none 0 0, .slice none 0 0] 59)
  have hin : PropsIn r (w.heap.size + 1 + 1) w.heap.size (w.heap.size + 3) ((w.alloc (.cells #[.pointer (some ⟨r, 0, none⟩)] 40)).alloc zero8) (((w.alloc (.cells #[.pointer (some ⟨r, 0, none⟩)] 40)).alloc zero8).alloc (.cells #[.int .i64 4, .string ⟨#[]⟩, .string ⟨#[]⟩, .string ⟨#[]⟩, .slice none 0 0, .slice none 0 0, .slice none 0 0, .slice none 0 0] 59)) S ([], []) (.slice none 0 0) (.slice none 0 0) := by
    refine ⟨(Only.refl _ _).alloc _, ?_, by omega, by omega, ?_, by omega, by omega, ?_, ?_, ?_, World.ownsRow_nil _ _ _ _, World.ownsRow_nil _ _ _ _, ?_, ?_⟩
    · simp only [World.size_alloc]; omega
    · simp only [World.size_alloc]; omega
    · simp only [World.size_alloc]; omega
    · rw [Below.heap_alloc _ _ _ (by simp only [World.size_alloc]; omega), Below.heap_alloc _ _ _ (by simp only [World.size_alloc]; omega)]; exact heap_alloc_new w _
    · have := heap_alloc_new ((w.alloc (.cells #[.pointer (some ⟨r, 0, none⟩)] 40)).alloc zero8) (.cells #[.int .i64 4, .string ⟨#[]⟩, .string ⟨#[]⟩, .string ⟨#[]⟩, .slice none 0 0, .slice none 0 0, .slice none 0 0, .slice none 0 0] 59)
      simp only [World.size_alloc] at this; exact this
    · simpa using h.few
    · simpa using h.few
  have o0 : Only r w ((w.alloc (.cells #[.pointer (some ⟨r, 0, none⟩)] 40)).alloc zero8) := ((Only.refl r w).alloc _).alloc _
  have hg0 : ((w.alloc (.cells #[.pointer (some ⟨r, 0, none⟩)] 40)).alloc zero8).heap[w.heap.size + 1]? = some zero8 := by
    have := heap_alloc_new (w.alloc (.cells #[.pointer (some ⟨r, 0, none⟩)] 40)) zero8
    simp only [World.size_alloc] at this; exact this
  have hz0 : ((w.alloc (.cells #[.pointer (some ⟨r, 0, none⟩)] 40)).alloc zero8).heap.size = w.heap.size + 2 := by simp only [World.size_alloc]
  generalize hw0 : ((w.alloc (.cells #[.pointer (some ⟨r, 0, none⟩)] 40)).alloc zero8) = w0 at hin o0 hg0 hz0
  rw [hw0] at ha
  have HW0 := hid hw0
  have HZ0 := hid hz0
  clear hw0 hz0
  go_enter Tryz.func86, Tryz.ntmps86
  go_wp2_with fail
  have hg1 := HW0.out
  unfold zero8 at hg1
  rw [hg1]
  clear hg1
  have hz0 := HZ0.out
  refine (take_any r S (M.ch 123) _ ha (by decide)).mono ?_
  rintro e w1 ⟨o1, hok, herr⟩
  cases htk : M.take S (M.ch 123) with
  | error f =>
    obtain rfl := herr f htk
    exact ⟨rfl, Ends.err (by rw [M.object, htk]; rfl) (o0.trans (hin.only.trans o1))⟩
  | ok p =>
    obtain ⟨S1, u⟩ := p
    obtain ⟨v, rfl, r1, hv⟩ := hok S1 u htk
    obtain rfl : v = .tuple #[] := hv
    have HR : Hid (M.object S = M.bnd (M.list (M.ch 125) M.itemProp S1 ([], [])) fun S2 l => M.bnd (M.take S2 M.kProto) fun S3 _ => M.bnd (M.operand S3) fun S4 o => .ok (S4, ⟨4, M.em, M.em, l.2 ++ [o], l.1⟩)) := by unfold Hid; rw [M.object, htk]; rfl
    have hin1 := hin.mono o1 (S' := S1) (M.take_le htk).rest
    have cR1 := cell0 hin1.boxR
    clear hok herr
    go_wp2_with fail
    refine (list_obj r (M.ch 125) (by decide) M.itemProp (fun W S l => ∃ va vp, PropsIn r (w.heap.size + 1 + 1) w.heap.size (w.heap.size + 3) w0 W S l va vp) _ _ w0 (fun _ _ _ ⟨_, _, h⟩ => h.only) (fun _ _ _ _ _ ⟨va, vp, h⟩ o l => ⟨va, vp, h.mono o l⟩) (fun _ _ _ _ h => M.itemProp_short h)
      (fun W S l hR hI => propItem_any r _ _ _ w0 W S l hR hI) S1 ([], []) _ r1 ⟨_, _, hin1⟩).mono ?_
    rintro e w2 ⟨o2, hok2, herr2⟩
    cases hls : M.list (M.ch 125) M.itemProp S1 ([], []) with
    | error f =>
      obtain rfl := herr2 f hls
      exact ⟨rfl, Ends.err (by rw [HR.out, hls]; rfl) (o0.trans o2)⟩
    | ok p =>
      obtain ⟨S2, l⟩ := p
      obtain ⟨rfl, r2, va, vp, i2⟩ := hok2 S2 l hls
      obtain ⟨ap, cp, rfl⟩ := own_form i2.ownP
      have HR2 : Hid (M.object S = M.bnd (M.take S2 M.kProto) fun S3 _ => M.bnd (M.operand S3) fun S4 o => .ok (S4, ⟨4, M.em, M.em, l.2 ++ [o], l.1⟩)) := by unfold Hid; rw [HR.out, hls]; rfl
      have cR2 := cell0 i2.boxR
      clear hok2 herr2 HR
      go_wp2_with fail
      refine (take_any r S2 M.kProto _ r2 (by decide)).mono ?_
      rintro e w3 ⟨o3, hok, herr⟩
      cases htk2 : M.take S2 M.kProto with
      | error f =>
        obtain rfl := herr f htk2
        exact ⟨rfl, Ends.err (by rw [HR2.out, htk2]; rfl) (o0.trans (i2.only.trans o3))⟩
      | ok p =>
        obtain ⟨S3, u⟩ := p
        obtain ⟨v, rfl, r3, hv⟩ := hok S3 u htk2
        obtain rfl : v = .tuple #[] := hv
        have HR3 : Hid (M.object S = M.bnd (M.operand S3) fun S4 o => .ok (S4, ⟨4, M.em, M.em, l.2 ++ [o], l.1⟩)) := by unfold Hid; rw [HR2.out, htk2]; rfl
        have hI := i2.mono o3 (S' := S3) (M.take_le htk2).rest
        have cR3 := cell0 hI.boxR
        have cL3 : w3.cell? ⟨w.heap.size + 1 + 1, 4, none⟩ = some va := by rw [Lib.cell_of_heap hI.boxL]; rfl
        have hvLc : va.ownBlock ≠ some (w.heap.size + 1 + 1) := fun e => by have := (hI.ownA.lt _ e).1; omega
        have hbs3 := hI.bs
        have fewA3 := hI.fewA
        clear hok herr HR2
        cases h3 : M.operand S3 with
        | error f =>
          have hcall2 : Calls Tryz.prog 82 #[.pointer (some ⟨r, 0, none⟩)] w3.drew fun e w' => e = .panicked (stopOf f) ∧ Only r w3 w' :=
            (operand_any r S3 _ r3.drew).mono fun e w' ⟨o1, _, h2⟩ => ⟨h2 f h3, (Only.refl r w3).drew.trans o1⟩
          go_wp2_with fail
          refine wp_region_held_drew (S := (fun w' => w'.cell? ⟨w.heap.size + 1 + 1, 4, none⟩ = some va ∧ w'.cell? ⟨w.heap.size, 0, none⟩ = some (.pointer (some ⟨r, 0, none⟩)))) (by kernel_rfl) ⟨cL3, cR3⟩ (fun hHeld => ?_)
          refine wpAnyH_take (i := 0) (oi := _) (v := .pointer (some ⟨w.heap.size + 1 + 1, 4, none⟩)) rfl (by kernel_rfl) (by kernel_rfl) (by kernel_rfl) (fun _ _ _ h => h) (Or.inl ⟨by rfl, ?_⟩) hHeld ?_
          · intro w hSw
            try dsimp only at hSw
            go_simp
          simp only [Act.put, List.setIfInBounds_toArray]
          refine wpAnyH_take (i := 1) (oi := _) (v := va) rfl (by kernel_rfl) (by kernel_rfl) (by kernel_rfl) (fun _ _ _ h => h) (Or.inl ⟨by rfl, ?_⟩) hHeld ?_
          · intro w hSw
            try dsimp only at hSw
            go_simp
          simp only [Act.put]
          refine wpAnyH_take (i := 2) (oi := _) (v := .pointer (some ⟨r, 0, none⟩)) rfl (by kernel_rfl) (by kernel_rfl) (by kernel_rfl) (fun _ _ _ h => h) (Or.inl ⟨by rfl, ?_⟩) hHeld ?_
          · intro w hSw
            try dsimp only at hSw
            go_simp
          simp only [Act.put]
          refine wpAnyH_ready (rs := [3]) (by kernel_rfl) (by simp) ?_
          refine AllReadyH.cons rfl (fun K hK => ?_) AllReadyH.nil
          go_simp
          refine hcall2.mono ?_
          rintro e w4 ⟨rfl, o4⟩
          exact ⟨rfl, Ends.err (by rw [HR3.out, h3]; rfl) (o0.trans (hI.only.trans o4))⟩
        | ok p =>
          obtain ⟨S4, o⟩ := p
          have hshort3 := M.operand_short h3
          have hcall2 := operand_call r3 hI h3
          have hn63 : l.2.length + 1 ≤ maxLen := by unfold maxLen; omega
          have hnby : (l.2.length + 1) * 32 ≤ 140737488355328 := by omega
          go_wp2_with fail
          go_region_law
            (first
              | (refine step_append_lies _ (by rfl) _ _ _ (by rfl) (w.heap.size + 3) 61 j0 _ 3 32 Tryz.underlying57 hj0 hy0 hy1 hy2 rfl (by omega) va l.2.length (l.2.flatMap opCells) (by rfl) (own4.alloc _)
                  ⟨w4.heap.size, 0, none⟩ 1 1 [.int .i64 o.k, .int .i64 o.n, .string o.s] (by rfl) (by rfl) (World.news_of_block (cs := #[.int .i64 o.k, .int .i64 o.n, .string o.s]) (t := 61) (fr := (0, 0)) (heap_alloc_new w4 _)) (by simp [Value.oneCell'])
                  Nat.one_pos hn63 hnby (by simp; omega) (w4.heap.size + 1) (by simp) ?_; intro cg ccap cw hownc hgrowc hatc hltc; have bLc := (hgrowc.block (w.heap.size + 1 + 1) (by rw [World.size_alloc]; omega) (Ne.symm hvLc)).trans ((Below.heap_alloc _ _ _ (by omega)).trans bL4); have hfzc := Lib.frozen_of_heap bLc 4; have cLc : cw.cell? ⟨w.heap.size + 1 + 1, 4, none⟩ = some va := by (rw [Lib.cell_of_heap bLc]; rfl))
              | (go_simp; go_at_call 82; refine hcall2.mono ?_; rintro e w4 ⟨rfl, cLw4, cRw4, rw4, ow4, iw4, own4, bL4⟩; have hszw4 := ow4.size; have hbsw4 := iw4.bs; have hlLw4 : w.heap.size + 1 + 1 < w4.heap.size := (by omega)))
          all_goals
            obtain ⟨rd, idd⟩ := PropsIn.nextA iw4 rw4 (by omega) hownc hgrowc
            obtain ⟨k0, k1, k2, k3, k4, k5, k6, k7, kf, kz⟩ := cells8 idd.boxL
            have hg5 := (idd.only.block (w.heap.size + 1) (by omega) (by omega)).trans hg0
            obtain ⟨q0, q1, q2, q3, q4, q5, q6, q7, qf, qz⟩ := cells8 hg5
            go_wp2_with fail
            refine ret8 (enc := valEnc w) (res := M.object S) (S' := S4) (a := (⟨4, M.em, M.em, l.2 ++ [o], l.1⟩ : M.Val)) (res_object (by rfl) (put8_at hg5 _ _ _ _ _ _ _ _)) (by rw [HR3.out, h3]; rfl) (put8_only (o0.trans idd.only) (by omega) _ _ _ _ _ _ _ _) (put8_rd rd (by omega) _ _ _ _ _ _ _ _) ⟨_, _, rfl, ?_, ?_⟩
            · exact ((SlAt.of_owns (X := fun b => b < w.heap.size + 3) idd.ownA (fun b hb hx => by omega) (by have := idd.fewA; omega)).keep (put8_keep (by omega) _ _ _ _ _ _ _ _)).weak fun b _ hx hy => hx (by have : b < w.heap.size := hy; omega)
            · exact ((SlAt.of_owns (X := fun b => b < w.heap.size + 3) idd.ownP (fun b hb hx => by omega) (by have := idd.few; omega)).keep (put8_keep (by omega) _ _ _ _ _ _ _ _)).weak fun b _ hx hy => hx (by have : b < w.heap.size := hy; omega)
end Go.Proofs.YtkonkdhoakcmdaaGreatDoor
