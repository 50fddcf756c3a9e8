/-
  The walks of a reader's branch and statement, where block is known for fewer tokens. Conditions: what block does there.
-/
import Derived.Test.YtkonkdhoakcmdaaGreatDoorR11
import Derived.Test.YtkonkdhoakcmdaaGreatDoorMM
set_option linter.unusedVariables false
namespace Go.Proofs.YtkonkdhoakcmdaaGreatDoor
open Go.RowKit

def blkEnc (w0 : World) : M.Tr → Value → World → Prop := fun t v w => StmAt w (Old w0) v t
/-- what block does where fewer than N tokens are left -/
def BlockC (N : Nat) : Prop := ∀ (r : Nat) (S : M.St) (w : World), Rd w r S → S.rest.length < N → Calls Tryz.prog 53 #[.pointer (some ⟨r, 0, none⟩)] w (Ends r w (blkEnc w) (M.blk N S))
def StmtC (N : Nat) : Prop := ∀ (r : Nat) (S : M.St) (w : World), Rd w r S → S.rest.length ≤ N → Calls Tryz.prog 69 #[.pointer (some ⟨r, 0, none⟩)] w (Ends r w (stmEnc w) (M.stmt (M.blk N) S))
theorem StmAt.form {w : World} {X : Nat → Prop} {v : Value} {t : M.Tr} (h : StmAt w X v t) : ∃ a c, v = .slice a t.len c := by
  obtain ⟨cs, h1, _⟩ := h
  exact SlAt.form h1

/-- a statement more has begun -/
theorem Rd.more {w : World} {r : Nat} {S : M.St} (h : Rd w r S) (hn : S.n ≠ 2000) : Rd (w.setCell ⟨r, 5, none⟩ (.int .i64 ((S.n : Int) + 1))) r S.more := by
  obtain ⟨⟨v, hh, ht⟩, hf, hl⟩ := h
  have ho : Only r w (w.setCell ⟨r, 5, none⟩ (.int .i64 ((S.n : Int) + 1))) := (Only.refl r w).setCell (.inl rfl) _
  refine ⟨⟨v, ?_, ht.only ho⟩, hf, by show S.n + 1 ≤ 2000; omega, hl.2⟩
  rw [heap_setCell_same _ _ _ _ _ _ hh]
  show _ = some (Obj.cells #[_, _, _, _, _, .int .i64 ((S.n + 1 : Nat) : Int), _] _ _)
  rw [Int.natCast_add]
  rfl
theorem Rd.down {w : World} {r : Nat} {S : M.St} (h : Rd w r S) (hn : S.d ≠ 32) : Rd (w.setCell ⟨r, 6, none⟩ (.int .i64 ((S.d : Int) + 1))) r S.down := by
  obtain ⟨⟨v, hh, ht⟩, hf, hl⟩ := h
  have ho : Only r w (w.setCell ⟨r, 6, none⟩ (.int .i64 ((S.d : Int) + 1))) := (Only.refl r w).setCell (.inl rfl) _
  refine ⟨⟨v, ?_, ht.only ho⟩, hf, hl.1, by show S.d + 1 ≤ 32; omega⟩
  rw [heap_setCell_same _ _ _ _ _ _ hh]
  show _ = some (Obj.cells #[_, _, _, _, _, _, .int .i64 ((S.d + 1 : Nat) : Int)] _ _)
  rw [Int.natCast_add]
  rfl
theorem Rd.up {w : World} {r : Nat} {S : M.St} (h : Rd w r S) (hn : 1 ≤ S.d) : Rd (w.setCell ⟨r, 6, none⟩ (.int .i64 ((S.d : Int) - 1))) r S.up := by
  obtain ⟨⟨v, hh, ht⟩, hf, hl⟩ := h
  have ho : Only r w (w.setCell ⟨r, 6, none⟩ (.int .i64 ((S.d : Int) - 1))) := (Only.refl r w).setCell (.inl rfl) _
  refine ⟨⟨v, ?_, ht.only ho⟩, hf, hl.1, by show S.d - 1 ≤ 32; have := hl.2; omega⟩
  rw [heap_setCell_same _ _ _ _ _ _ hh]
  show _ = some (Obj.cells #[_, _, _, _, _, _, .int .i64 ((S.d - 1 : Nat) : Int)] _ _)
  rw [Int.natCast_sub hn]
  rfl

set_option maxRecDepth 8000 in
set_option maxHeartbeats 1600000 in
theorem branch_any (N : Nat) (hB : BlockC N) (r : Nat) (S : M.St) (w : World) (h : Rd w r S) (hN : S.rest.length < N) :
    Calls Tryz.prog 78 #[.pointer (some ⟨r, 0, none⟩)] w (Ends r w (stmEnc w) (M.branch (M.blk N) S)) := by
  have hlt := h.lt
  have ha := h.alloc zero8
  have o0 : Only r w (w.alloc zero8) := (Only.refl r w).alloc _
  have HR : Hid (M.branch (M.blk N) S = M.bnd (M.oneOperand S) fun S1 a => M.bnd (M.blk N S1) fun S2 th =>
    if S2.at M.kElse = true then M.bnd (M.blk N S2.adv) fun S3 el => .ok (S3, M.one 9 M.em M.em M.em a [] th el)
    else .ok (S2, M.one 9 M.em M.em M.em a [] th .nil)) := rfl
  go_enter Tryz.func78, Tryz.ntmps78
  go_wp2_with fail
  refine (oneOperand_any r S _ ha).mono ?_
  rintro e w2 ⟨o2, hok, herr⟩
  cases hop : M.oneOperand S with
  | error f =>
    obtain rfl := herr f hop
    exact ⟨rfl, Ends.err (by rw [HR.out, hop]; rfl) (o0.trans o2)⟩
  | ok p =>
    obtain ⟨S2, l⟩ := p
    obtain ⟨v2, rfl, r2, hA⟩ := hok S2 l hop
    obtain ⟨aa, ca, rfl⟩ := SlAt.form hA
    have hsh2 := (M.oneOperand_le hop).rest
    have ra := r2.alloc (.cells #[.int .i64 9, .string ⟨#[]⟩, .string ⟨#[]⟩, .string ⟨#[]⟩, .slice aa l.length ca, .slice none 0 0, .slice none 0 0, .slice none 0 0] 59)
    clear hok herr
    go_wp2_with fail
    refine (hB r S2 _ ra (by omega)).mono ?_
    rintro e w3 ⟨o3, hok, herr⟩
    have o23 : Only r w2 w3 := ((Only.refl r w2).alloc _).trans o3
    cases hbl : M.blk N S2 with
    | error f =>
      obtain rfl := herr f hbl
      exact ⟨rfl, Ends.err (by rw [HR.out, hop]; simp only [M.bnd, hbl]) (o0.trans (o2.trans o23))⟩
    | ok p =>
      obtain ⟨S3, th⟩ := p
      obtain ⟨v3, rfl, r3, hT⟩ := hok S3 th hbl
      have hT' : StmAt w3 (Old (w2.alloc (.cells #[.int .i64 9, .string ⟨#[]⟩, .string ⟨#[]⟩, .string ⟨#[]⟩, .slice aa l.length ca, .slice none 0 0, .slice none 0 0, .slice none 0 0] 59))) v3 th := hT
      obtain ⟨at3, ct3, rfl⟩ := hT'.form
      have hsh3 := (M.blk_le N hbl).rest
      have hz2 := o2.size
      rw [World.size_alloc] at hz2
      have hz3 := o23.size
      have hL := kept_new o3 r2.lt
      obtain ⟨k0, k1, k2, k3, k4, k5, k6, k7, kf, kz⟩ := cells8 hL
      have hg := kept8 (o2.trans o23) hlt
      have hLr : r < w2.heap.size := r2.lt
      have hgL : ¬ w.heap.size = w2.heap.size := by omega
      have hLg : ¬ w2.heap.size = w.heap.size := by omega
      have rS := r3.setCell (p := ⟨w2.heap.size, 6, none⟩) hLr (.slice at3 th.len ct3)
      have oS : Only r w (w3.setCell ⟨w2.heap.size, 6, none⟩ (.slice at3 th.len ct3)) := (o0.trans (o2.trans o23)).setCell (.inr (by show w.heap.size ≤ w2.heap.size; omega)) _
      have hLS : (w3.setCell ⟨w2.heap.size, 6, none⟩ (.slice at3 th.len ct3)).heap[w2.heap.size]? = some (.cells #[.int .i64 9, .string ⟨#[]⟩, .string ⟨#[]⟩, .string ⟨#[]⟩, .slice aa l.length ca, .slice none 0 0, .slice at3 th.len ct3, .slice none 0 0] 59 (0, 0)) := heap_setCell_same _ _ _ _ _ _ hL
      have hgS : (w3.setCell ⟨w2.heap.size, 6, none⟩ (.slice at3 th.len ct3)).heap[w.heap.size]? = some zero8 := (Below.heap_setCell _ _ _ _ hgL).trans hg
      have hzS : (w3.setCell ⟨w2.heap.size, 6, none⟩ (.slice at3 th.len ct3)).heap.size = w3.heap.size := by simp [World.setCell]
      have kS : Keep (Old (w2.alloc (.cells #[.int .i64 9, .string ⟨#[]⟩, .string ⟨#[]⟩, .string ⟨#[]⟩, .slice aa l.length ca, .slice none 0 0, .slice none 0 0, .slice none 0 0] 59))) w3 (w3.setCell ⟨w2.heap.size, 6, none⟩ (.slice at3 th.len ct3)) := keep_set (by show w2.heap.size < _; simp) _
      have hTS := hT'.keep kS
      have hAS : OpsAt (w3.setCell ⟨w2.heap.size, 6, none⟩ (.slice at3 th.len ct3)) (fun b => b < w.heap.size + 1 ∨ b = r ∨ b = w2.heap.size) (.slice aa l.length ca) l := by
        have h1 : OpsAt w2 (fun b => b < w.heap.size + 1 ∨ b = r ∨ b = w2.heap.size) (.slice aa l.length ca) l := SlAt.weak hA fun b hb hx hy => by
          have hx' : ¬ b < (w.alloc zero8).heap.size := hx
          rw [World.size_alloc] at hx'
          rcases hy with hy | hy | hy <;> omega
        exact SlAt.keep (SlAt.keep h1 (o23.keep (.inr (.inl rfl)))) (keep_set (.inr (.inr rfl)) _)
      clear hok herr
      cases he : S3.at M.kElse
      · have HR2 : Hid (M.branch (M.blk N) S = .ok (S3, M.one 9 M.em M.em M.em l [] th .nil)) := by unfold Hid; rw [HR.out, hop]; simp only [M.bnd, hbl, he]; rfl
        go_wp2_with fail
        generalize hWS : w3.setCell ⟨w2.heap.size, 6, none⟩ (.slice at3 th.len ct3) = WS at rS oS hLS hgS hzS kS hTS hAS ⊢
        have HWS := hid hWS
        have HZS := hid hzS
        clear hWS hzS
        refine (passIf_no r S3 M.kElse _ rS he).mono ?_
        rintro e w' ⟨rfl, rfl⟩
        obtain ⟨k0, k1, k2, k3, k4, k5, k6, k7, kf, kz⟩ := cells8 hLS
        obtain ⟨q0, q1, q2, q3, q4, q5, q6, q7, qf, qz⟩ := cells8 hgS
        go_wp2_with fail
        refine ret8 (enc := stmEnc w) (res := M.branch (M.blk N) S) (S' := S3) (res_branch (by rfl) (put8_at hgS _ _ _ _ _ _ _ _)) HR2.out (put8_only oS (Nat.le_refl _) _ _ _ _ _ _ _ _) (put8_rd rS hlt _ _ _ _ _ _ _ _) ⟨_, _, _, _, _, _, _, _, _, _, _, _, rfl, rfl, ?_, StrsAt.nil _ _, hTS.fresh (put8_keep (by show w.heap.size < _; rw [World.size_alloc]; omega) _ _ _ _ _ _ _ _) (by rw [World.size_alloc]; omega), StmAt.nil _ _⟩
        exact (SlAt.keep hAS (put8_keep (.inl (by omega)) _ _ _ _ _ _ _ _)).weak fun b _ hx hy => hx (.inl (by have : b < w.heap.size := hy; omega))
      · have HR2 : Hid (M.branch (M.blk N) S = M.bnd (M.blk N S3.adv) fun S4 el => .ok (S4, M.one 9 M.em M.em M.em l [] th el)) := by unfold Hid; rw [HR.out, hop]; simp only [M.bnd, hbl, he]; rfl
        have hsh4 := (M.adv_le S3).rest
        go_wp2_with fail
        generalize hWS : w3.setCell ⟨w2.heap.size, 6, none⟩ (.slice at3 th.len ct3) = WS at rS oS hLS hgS hzS kS hTS hAS ⊢
        have HWS := hid hWS
        have HZS := hid hzS
        clear hWS hzS
        refine (passIf_yes r S3 M.kElse _ rS he (by decide)).mono ?_
        rintro e w4 ⟨rfl, r4, o4⟩
        go_wp2_with fail
        refine (hB r S3.adv _ r4 (by omega)).mono ?_
        rintro e w5 ⟨o5, hok, herr⟩
        have o45 := o4.trans o5
        cases hb2 : M.blk N S3.adv with
        | error f =>
          obtain rfl := herr f hb2
          exact ⟨rfl, Ends.err (by rw [HR2.out, hb2]; rfl) (oS.trans o45)⟩
        | ok p =>
          obtain ⟨S5, el⟩ := p
          obtain ⟨v5, rfl, r5, hE⟩ := hok S5 el hb2
          have hE' : StmAt w5 (Old w4) v5 el := hE
          obtain ⟨ae, ce, rfl⟩ := hE'.form
          have hz4 := o4.size
          have hzz := HZS.out
          have hL5 := (o45.block w2.heap.size (by omega) (by omega)).trans hLS
          have hg5 := (o45.block w.heap.size (by omega) (by omega)).trans hgS
          have hT5 := hTS.keep (o45.keep (show r < _ by rw [World.size_alloc]; omega))
          have hA5 := SlAt.keep hAS (o45.keep (.inr (.inl rfl)))
          have hL6 : (w5.setCell ⟨w2.heap.size, 7, none⟩ (.slice ae el.len ce)).heap[w2.heap.size]? = some (.cells #[.int .i64 9, .string ⟨#[]⟩, .string ⟨#[]⟩, .string ⟨#[]⟩, .slice aa l.length ca, .slice none 0 0, .slice at3 th.len ct3, .slice ae el.len ce] 59 (0, 0)) := heap_setCell_same _ _ _ _ _ _ hL5
          have hg6 : (w5.setCell ⟨w2.heap.size, 7, none⟩ (.slice ae el.len ce)).heap[w.heap.size]? = some zero8 := (Below.heap_setCell _ _ _ _ hgL).trans hg5
          have hT6 := hT5.keep (keep_set (X := Old (w2.alloc (.cells #[.int .i64 9, .string ⟨#[]⟩, .string ⟨#[]⟩, .string ⟨#[]⟩, .slice aa l.length ca, .slice none 0 0, .slice none 0 0, .slice none 0 0] 59))) (w := w5) (p := ⟨w2.heap.size, 7, none⟩) (show w2.heap.size < (w2.alloc (.cells #[.int .i64 9, .string ⟨#[]⟩, .string ⟨#[]⟩, .string ⟨#[]⟩, .slice aa l.length ca, .slice none 0 0, .slice none 0 0, .slice none 0 0] 59)).heap.size by rw [World.size_alloc]; omega) (.slice ae el.len ce))
          have hA6 := SlAt.keep hA5 (keep_set (w := w5) (p := ⟨w2.heap.size, 7, none⟩) (.inr (.inr rfl)) (.slice ae el.len ce))
          have hE6 := hE'.keep (keep_set (X := Old w4) (w := w5) (p := ⟨w2.heap.size, 7, none⟩) (show w2.heap.size < w4.heap.size by omega) (.slice ae el.len ce))
          obtain ⟨k0, k1, k2, k3, k4, k5, k6, k7, kf, kz⟩ := cells8 hL5
          obtain ⟨q0, q1, q2, q3, q4, q5, q6, q7, qf, qz⟩ := cells8 hg5
          clear hok herr
          go_wp2_with fail
          refine ret8 (enc := stmEnc w) (res := M.branch (M.blk N) S) (S' := S5) (res_branch (by rfl) (put8_at hg6 _ _ _ _ _ _ _ _)) (by rw [HR2.out, hb2]; rfl) (put8_only ((oS.trans o45).setCell (.inr (by show w.heap.size ≤ w2.heap.size; omega)) _) (Nat.le_refl _) _ _ _ _ _ _ _ _) (put8_rd (r5.setCell hLr _) hlt _ _ _ _ _ _ _ _) ⟨_, _, _, _, _, _, _, _, _, _, _, _, rfl, rfl, ?_, StrsAt.nil _ _, hT6.fresh (put8_keep (by show w.heap.size < _; rw [World.size_alloc]; omega) _ _ _ _ _ _ _ _) (by rw [World.size_alloc]; omega), hE6.fresh (put8_keep (by show w.heap.size < _; omega) _ _ _ _ _ _ _ _) (by omega)⟩
          exact (SlAt.keep hA6 (put8_keep (.inl (by omega)) _ _ _ _ _ _ _ _)).weak fun b _ hx hy => hx (.inl (by have : b < w.heap.size := hy; omega))
end Go.Proofs.YtkonkdhoakcmdaaGreatDoor
