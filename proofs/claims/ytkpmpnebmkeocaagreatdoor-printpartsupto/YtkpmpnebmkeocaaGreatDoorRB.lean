/-
  The walk of a reader's plain: a statement without blocks, up to its semicolon. No conditions.
-/
import Derived.Test.YtkpmpnebmkeocaaGreatDoorRA
import Derived.Test.YtkpmpnebmkeocaaGreatDoorMA
set_option linter.unusedVariables false
section
namespace Go.Proofs.YtkpmpnebmkeocaaGreatDoor
open Go.RowKit

def stmEnc (w0 : World) : M.Tr → Value → World → Prop := fun t v w => ∃ op x y p a pr th el va vp vt ve, t = M.one op x y p a pr th el ∧ v = .agg #[.int .i64 op, .string x, .string y, .string p, va, vp, vt, ve] ∧
  OpsAt w (Old w0) va a ∧ StrsAt w (Old w0) vp pr ∧ StmAt w (Old w0) vt th ∧ StmAt w (Old w0) ve el
theorem stmEnc_mk {w0 w : World} {op : Int} {x y p : ByteArray} {a : List M.Opd} {pr : List ByteArray} {va vp : Value} (h1 : OpsAt w (Old w0) va a) (h2 : StrsAt w (Old w0) vp pr) :
    stmEnc w0 (M.one op x y p a pr .nil .nil) (.agg #[.int .i64 op, .string x, .string y, .string p, va, vp, .slice none 0 0, .slice none 0 0]) w :=
  ⟨op, x, y, p, a, pr, .nil, .nil, va, vp, _, _, rfl, rfl, h1, h2, StmAt.nil _ _, StmAt.nil _ _⟩
theorem StmAt.fresh {w W w3 w4 : World} {v : Value} {l : M.Tr} (h : StmAt w3 (Old W) v l) (hk : Keep (Old W) w3 w4) (hz : w.heap.size ≤ W.heap.size) : StmAt w4 (Old w) v l :=
  (h.keep hk).weak fun b _ hx hy => hx (Nat.lt_of_lt_of_le hy hz)

set_option maxRecDepth 8000 in
set_option maxHeartbeats 1600000 in
theorem plain_out (r : Nat) (S : M.St) (w : World) (h : Rd w r S) (h1 : S.at M.kOut = true) :
    Calls Tryz.prog 135 #[.pointer (some ⟨r, 0, none⟩)] w (Ends r w (stmEnc w) (M.plain S)) := by
  have hlt := h.lt
  have ha := h.alloc zero8
  have o0 : Only r w (w.alloc zero8) := (Only.refl r w).alloc _
  have HR : Hid (M.plain S = M.bnd (M.oneOperand S.adv) fun S1 a => .ok (S1, M.one 8 M.em M.em M.em a [] .nil .nil)) := by unfold Hid; simp [M.plain, h1]
  go_enter Tryz.func135, Tryz.ntmps135
  go_wp2_with fail
  refine (passIf_yes r S M.kOut _ ha h1 (by decide)).mono ?_
  rintro e w1 ⟨rfl, r1, o1⟩
  go_wp2_with fail
  refine (oneOperand_any r S.adv _ r1).mono ?_
  rintro e w2 ⟨o2, hok, herr⟩
  cases hnm : M.oneOperand S.adv with
  | error f =>
    obtain rfl := herr f hnm
    exact ⟨rfl, Ends.err (by rw [HR.out, hnm]; rfl) (o0.trans (o1.trans o2))⟩
  | ok p =>
    obtain ⟨S2, l⟩ := p
    obtain ⟨v2, rfl, r2, hA⟩ := hok S2 l hnm
    have hA' : OpsAt w2 (Old w1) v2 l := hA
    obtain ⟨aa, ca, rfl⟩ := SlAt.form hA'
    have hz1 := o1.size
    rw [World.size_alloc] at hz1
    have hg := kept8 (o1.trans o2) hlt
    obtain ⟨q0, q1, q2, q3, q4, q5, q6, q7, qf, qz⟩ := cells8 hg
    clear hok herr
    go_wp2_with fail
    exact ret8 (enc := stmEnc w) (res := M.plain S) (S' := S2) (res_plain (by rfl) (put8_at hg _ _ _ _ _ _ _ _)) (by rw [HR.out, hnm]; rfl) (put8_only (o0.trans (o1.trans o2)) (Nat.le_refl _) _ _ _ _ _ _ _ _) (put8_rd r2 hlt _ _ _ _ _ _ _ _) (stmEnc_mk (hA'.fresh (put8_keep (by show w.heap.size < _; omega) _ _ _ _ _ _ _ _) (by omega)) (StrsAt.nil _ _))

set_option maxRecDepth 8000 in
set_option maxHeartbeats 1600000 in
theorem plain_ret (r : Nat) (S : M.St) (w : World) (h : Rd w r S) (h1 : S.at M.kOut = false) (h2 : S.at M.kReturn = true) :
    Calls Tryz.prog 135 #[.pointer (some ⟨r, 0, none⟩)] w (Ends r w (stmEnc w) (M.plain S)) := by
  have hlt := h.lt
  have ha := h.alloc zero8
  have o0 : Only r w (w.alloc zero8) := (Only.refl r w).alloc _
  have HR : Hid (M.plain S = M.bnd (M.oneOperand S.adv) fun S1 a => .ok (S1, M.one 11 M.em M.em M.em a [] .nil .nil)) := by unfold Hid; simp [M.plain, h1, h2]
  go_enter Tryz.func135, Tryz.ntmps135
  go_wp2_with fail
  refine (passIf_no r S M.kOut _ ha h1).mono ?_
  rintro e w' ⟨rfl, rfl⟩
  go_wp2_with fail
  refine (passIf_yes r S M.kReturn _ ha h2 (by decide)).mono ?_
  rintro e w1 ⟨rfl, r1, o1⟩
  go_wp2_with fail
  refine (oneOperand_any r S.adv _ r1).mono ?_
  rintro e w2 ⟨o2, hok, herr⟩
  cases hnm : M.oneOperand S.adv with
  | error f =>
    obtain rfl := herr f hnm
    exact ⟨rfl, Ends.err (by rw [HR.out, hnm]; rfl) (o0.trans (o1.trans o2))⟩
  | ok p =>
    obtain ⟨S2, l⟩ := p
    obtain ⟨v2, rfl, r2, hA⟩ := hok S2 l hnm
    have hA' : OpsAt w2 (Old w1) v2 l := hA
    obtain ⟨aa, ca, rfl⟩ := SlAt.form hA'
    have hz1 := o1.size
    rw [World.size_alloc] at hz1
    have hg := kept8 (o1.trans o2) hlt
    obtain ⟨q0, q1, q2, q3, q4, q5, q6, q7, qf, qz⟩ := cells8 hg
    clear hok herr
    go_wp2_with fail
    exact ret8 (enc := stmEnc w) (res := M.plain S) (S' := S2) (res_plain (by rfl) (put8_at hg _ _ _ _ _ _ _ _)) (by rw [HR.out, hnm]; rfl) (put8_only (o0.trans (o1.trans o2)) (Nat.le_refl _) _ _ _ _ _ _ _ _) (put8_rd r2 hlt _ _ _ _ _ _ _ _) (stmEnc_mk (hA'.fresh (put8_keep (by show w.heap.size < _; omega) _ _ _ _ _ _ _ _) (by omega)) (StrsAt.nil _ _))

set_option maxRecDepth 8000 in
set_option maxHeartbeats 1600000 in
theorem plain_bad (r : Nat) (S : M.St) (w : World) (h : Rd w r S) (h1 : S.at M.kOut = false) (h2 : S.at M.kReturn = false) (f : M.Flt) (hx : M.name S = .error f) :
    Calls Tryz.prog 135 #[.pointer (some ⟨r, 0, none⟩)] w (Ends r w (stmEnc w) (M.plain S)) := by
  have hlt := h.lt
  have ha := h.alloc zero8
  have o0 : Only r w (w.alloc zero8) := (Only.refl r w).alloc _
  go_enter Tryz.func135, Tryz.ntmps135
  go_wp2_with fail
  refine (passIf_no r S M.kOut _ ha h1).mono ?_
  rintro e w' ⟨rfl, rfl⟩
  go_wp2_with fail
  refine (passIf_no r S M.kReturn _ ha h2).mono ?_
  rintro e w' ⟨rfl, rfl⟩
  go_wp2_with fail
  refine (name_any r S _ ha).mono ?_
  rintro e w1 ⟨o1, hok, herr⟩
  obtain rfl := herr f hx
  exact ⟨rfl, Ends.err (by simp [M.plain, h1, h2, hx, M.bnd]) (o0.trans o1)⟩

set_option maxRecDepth 8000 in
set_option maxHeartbeats 1600000 in
theorem plain_set (r : Nat) (S : M.St) (w : World) (h : Rd w r S) (h1 : S.at M.kOut = false) (h2 : S.at M.kReturn = false) (S1 : M.St) (x : ByteArray) (hx : M.name S = .ok (S1, x)) (hd : S1.at (M.ch 46) = true) :
    Calls Tryz.prog 135 #[.pointer (some ⟨r, 0, none⟩)] w (Ends r w (stmEnc w) (M.plain S)) := by
  have hlt := h.lt
  have ha := h.alloc zero8
  have o0 : Only r w (w.alloc zero8) := (Only.refl r w).alloc _
  have HR : Hid (M.plain S = M.bnd (M.name S1.adv) fun S2 p => M.bnd (M.take S2 (M.ch 61)) fun S3 _ => M.bnd (M.oneOperand S3) fun S4 a => .ok (S4, M.one 3 x M.em p a [] .nil .nil)) := by unfold Hid; simp [M.plain, h1, h2, hx, M.bnd, hd]
  go_enter Tryz.func135, Tryz.ntmps135
  go_wp2_with fail
  refine (passIf_no r S M.kOut _ ha h1).mono ?_
  rintro e w' ⟨rfl, rfl⟩
  go_wp2_with fail
  refine (passIf_no r S M.kReturn _ ha h2).mono ?_
  rintro e w' ⟨rfl, rfl⟩
  go_wp2_with fail
  refine (name_any r S _ ha).mono ?_
  rintro e w1 ⟨o1, hok, herr⟩
  obtain ⟨v1, rfl, r1, hv1⟩ := hok S1 x hx
  obtain rfl : v1 = .string x := hv1
  have hz1 := o1.size
  rw [World.size_alloc] at hz1
  clear hok herr
  go_wp2_with fail
  refine (passIf_yes r S1 (M.ch 46) _ r1 hd (by decide)).mono ?_
  rintro e w2 ⟨rfl, r2, o2⟩
  go_wp2_with fail
  refine (name_any r S1.adv _ r2).mono ?_
  rintro e w3 ⟨o3, hok, herr⟩
  have o13 := o1.trans (o2.trans o3)
  cases hnm : M.name S1.adv with
  | error f =>
    obtain rfl := herr f hnm
    exact ⟨rfl, Ends.err (by rw [HR.out, hnm]; rfl) (o0.trans o13)⟩
  | ok p =>
    obtain ⟨S2, pn⟩ := p
    obtain ⟨v3, rfl, r3, hv3⟩ := hok S2 pn hnm
    obtain rfl : v3 = .string pn := hv3
    have HR2 : Hid (M.plain S = M.bnd (M.take S2 (M.ch 61)) fun S3 _ => M.bnd (M.oneOperand S3) fun S4 a => .ok (S4, M.one 3 x M.em pn a [] .nil .nil)) := by unfold Hid; rw [HR.out, hnm]; rfl
    have ra := r3.alloc (.cells #[.int .i64 3, .string x, .string ⟨#[]⟩, .string pn, .slice none 0 0, .slice none 0 0, .slice none 0 0, .slice none 0 0] 32)
    have hz3 := o13.size
    rw [World.size_alloc] at hz3
    clear hok herr HR
    go_wp2_with fail
    refine (take_any r S2 (M.ch 61) _ ra (by decide)).mono ?_
    rintro e w4 ⟨o4, hok, herr⟩
    have o34 : Only r w3 w4 := ((Only.refl r w3).alloc _).trans o4
    cases htk : M.take S2 (M.ch 61) with
    | error f =>
      obtain rfl := herr f htk
      exact ⟨rfl, Ends.err (by rw [HR2.out, htk]; rfl) (o0.trans (o13.trans o34))⟩
    | ok p =>
      obtain ⟨S3, u⟩ := p
      obtain ⟨v4, rfl, r4, hv4⟩ := hok S3 u htk
      obtain rfl : v4 = .tuple #[] := hv4
      have HR3 : Hid (M.plain S = M.bnd (M.oneOperand S3) fun S4 a => .ok (S4, M.one 3 x M.em pn a [] .nil .nil)) := by unfold Hid; rw [HR2.out, htk]; rfl
      clear hok herr HR2
      have hz4 := o4.size
      rw [World.size_alloc] at hz4
      go_wp2_with fail
      refine (oneOperand_any r S3 _ r4).mono ?_
      rintro e w5 ⟨o5, hok, herr⟩
      have o15 := o13.trans (o34.trans o5)
      cases hop : M.oneOperand S3 with
      | error f =>
        obtain rfl := herr f hop
        exact ⟨rfl, Ends.err (by rw [HR3.out, hop]; rfl) (o0.trans o15)⟩
      | ok p =>
        obtain ⟨S4, l⟩ := p
        obtain ⟨v5, rfl, r5, hA⟩ := hok S4 l hop
        have hA' : OpsAt w5 (Old w4) v5 l := hA
        obtain ⟨aa, ca, rfl⟩ := SlAt.form hA'
        have hL := kept_new (o4.trans o5) r3.lt
        have hg := kept8 o15 hlt
        obtain ⟨k0, k1, k2, k3, k4, k5, k6, k7, kf, kz⟩ := cells8 hL
        obtain ⟨q0, q1, q2, q3, q4, q5, q6, q7, qf, qz⟩ := cells8 hg
        have hgL : ¬ w.heap.size = w3.heap.size := by omega
        have hLg : ¬ w3.heap.size = w.heap.size := by omega
        clear hok herr
        go_wp2_with fail
        have hg' : (w5.setCell ⟨w3.heap.size, 4, none⟩ (.slice aa l.length ca)).heap[w.heap.size]? = _ := (Below.heap_setCell _ _ _ _ hgL).trans hg
        have hO : Only r w (w5.setCell ⟨w3.heap.size, 4, none⟩ (.slice aa l.length ca)) := (o0.trans o15).setCell (.inr (by show w.heap.size ≤ w3.heap.size; omega)) _
        exact ret8 (enc := stmEnc w) (res := M.plain S) (S' := S4) (res_plain (by rfl) (put8_at hg' _ _ _ _ _ _ _ _)) (by rw [HR3.out, hop]; rfl) (put8_only hO (Nat.le_refl _) _ _ _ _ _ _ _ _) (put8_rd (r5.setCell (by show r < w3.heap.size; exact r3.lt) _) hlt _ _ _ _ _ _ _ _)
          (stmEnc_mk (hA'.fresh ((keep_set (by show w3.heap.size < _; omega) _).trans (put8_keep (by show w.heap.size < _; omega) _ _ _ _ _ _ _ _)) (by omega)) (StrsAt.nil _ _))

set_option maxRecDepth 8000 in
set_option maxHeartbeats 1600000 in
theorem plain_val (r : Nat) (S : M.St) (w : World) (h : Rd w r S) (h1 : S.at M.kOut = false) (h2 : S.at M.kReturn = false) (S1 : M.St) (x : ByteArray) (hx : M.name S = .ok (S1, x)) (hd : S1.at (M.ch 46) = false) :
    Calls Tryz.prog 135 #[.pointer (some ⟨r, 0, none⟩)] w (Ends r w (stmEnc w) (M.plain S)) := by
  have hlt := h.lt
  have ha := h.alloc zero8
  have o0 : Only r w (w.alloc zero8) := (Only.refl r w).alloc _
  have HR : Hid (M.plain S = M.bnd (M.take S1 (M.ch 61)) fun S2 _ => M.bnd (M.value S2) fun S3 v => .ok (S3, M.one v.op x v.y v.p v.a v.pr .nil .nil)) := by unfold Hid; simp [M.plain, h1, h2, hx, M.bnd, hd]
  go_enter Tryz.func135, Tryz.ntmps135
  go_wp2_with fail
  refine (passIf_no r S M.kOut _ ha h1).mono ?_
  rintro e w' ⟨rfl, rfl⟩
  go_wp2_with fail
  refine (passIf_no r S M.kReturn _ ha h2).mono ?_
  rintro e w' ⟨rfl, rfl⟩
  go_wp2_with fail
  refine (name_any r S _ ha).mono ?_
  rintro e w1 ⟨o1, hok, herr⟩
  obtain ⟨v1, rfl, r1, hv1⟩ := hok S1 x hx
  obtain rfl : v1 = .string x := hv1
  have hz1 := o1.size
  rw [World.size_alloc] at hz1
  clear hok herr
  go_wp2_with fail
  refine (passIf_no r S1 (M.ch 46) _ r1 hd).mono ?_
  rintro e w' ⟨rfl, rfl⟩
  go_wp2_with fail
  refine (take_any r S1 (M.ch 61) _ r1 (by decide)).mono ?_
  rintro e w2 ⟨o2, hok, herr⟩
  have o12 := o1.trans o2
  cases htk : M.take S1 (M.ch 61) with
  | error f =>
    obtain rfl := herr f htk
    exact ⟨rfl, Ends.err (by rw [HR.out, htk]; rfl) (o0.trans o12)⟩
  | ok p =>
    obtain ⟨S2, u⟩ := p
    obtain ⟨v2, rfl, r2, hv2⟩ := hok S2 u htk
    obtain rfl : v2 = .tuple #[] := hv2
    have HR2 : Hid (M.plain S = M.bnd (M.value S2) fun S3 v => .ok (S3, M.one v.op x v.y v.p v.a v.pr .nil .nil)) := by unfold Hid; rw [HR.out, htk]; rfl
    clear hok herr HR
    have hz2 := o12.size
    rw [World.size_alloc] at hz2
    go_wp2_with fail
    refine (value_any r S2 _ r2).mono ?_
    rintro e w3 ⟨o3, hok, herr⟩
    have o13 := o12.trans o3
    cases hvl : M.value S2 with
    | error f =>
      obtain rfl := herr f hvl
      exact ⟨rfl, Ends.err (by rw [HR2.out, hvl]; rfl) (o0.trans o13)⟩
    | ok p =>
      obtain ⟨S3, y⟩ := p
      obtain ⟨v3, rfl, r3, va, vp, rfl, hA, hP⟩ := hok S3 y hvl
      obtain ⟨aa, ca, rfl⟩ := SlAt.form hA
      obtain ⟨ap, cp, rfl⟩ := SlAt.form hP
      have hg := kept8 o13 hlt
      obtain ⟨q0, q1, q2, q3, q4, q5, q6, q7, qf, qz⟩ := cells8 hg
      have hgL : ¬ w.heap.size = w3.heap.size := by have := o3.size; omega
      have hLg : ¬ w3.heap.size = w.heap.size := by have := o3.size; omega
      clear hok herr
      go_wp2_with fail
      have hk : ∀ o, Keep (Old w2) w3 ((put8 w3 w.heap.size (.int .i64 y.op) (.string x) (.string y.y) (.string y.p) (.slice aa y.a.length ca) (.slice ap y.pr.length cp) (.slice none 0 0) (.slice none 0 0)).alloc o) := fun o =>
        (put8_keep (by show w.heap.size < _; omega) _ _ _ _ _ _ _ _).trans (Below.keepX ((Below.refl _ _).alloc (Nat.le_refl _) o))
      exact ret8 (enc := stmEnc w) (res := M.plain S) (S' := S3) (res_plain (by rfl) ((Below.heap_alloc _ _ _ (by rw [put8_size]; omega)).trans (put8_at hg _ _ _ _ _ _ _ _))) (by rw [HR2.out, hvl]; rfl) ((put8_only (o0.trans o13) (Nat.le_refl _) _ _ _ _ _ _ _ _).alloc _) ((put8_rd r3 hlt _ _ _ _ _ _ _ _).alloc _)
        (stmEnc_mk (OpsAt.fresh hA (hk _) (by omega)) (StrsAt.fresh hP (hk _) (by omega)))

theorem plain_any (r : Nat) (S : M.St) (w : World) (h : Rd w r S) :
    Calls Tryz.prog 135 #[.pointer (some ⟨r, 0, none⟩)] w (Ends r w (stmEnc w) (M.plain S)) := by
  cases h1 : S.at M.kOut
  · cases h2 : S.at M.kReturn
    · cases hx : M.name S with
      | error f => exact plain_bad r S w h h1 h2 f hx
      | ok p =>
        obtain ⟨S1, x⟩ := p
        cases hd : S1.at (M.ch 46)
        · exact plain_val r S w h h1 h2 S1 x hx hd
        · exact plain_set r S w h h1 h2 S1 x hx hd
    · exact plain_ret r S w h h1 h2
  · exact plain_out r S w h h1
end Go.Proofs.YtkpmpnebmkeocaaGreatDoor
end
section
namespace Go.Proofs.YtkpmpnebmkeocaaGreatDoor
open Go.RowKit

def blkEnc (w0 : World) : M.Tr → Value → World → Prop := fun t v w => StmAt w (Old w0) v t
def BlockC (N : Nat) : Prop := ∀ (r : Nat) (S : M.St) (w : World), Rd w r S → S.rest.length < N → Calls Tryz.prog 108 #[.pointer (some ⟨r, 0, none⟩)] w (Ends r w (blkEnc w) (M.blk N S))
def StmtC (N : Nat) : Prop := ∀ (r : Nat) (S : M.St) (w : World), Rd w r S → S.rest.length ≤ N → Calls Tryz.prog 122 #[.pointer (some ⟨r, 0, none⟩)] w (Ends r w (stmEnc w) (M.stmt (M.blk N) S))
theorem StmAt.form {w : World} {X : Nat → Prop} {v : Value} {t : M.Tr} (h : StmAt w X v t) : ∃ a c, v = .slice a t.len c := by
  obtain ⟨cs, h1, _⟩ := h
  exact SlAt.form h1

theorem Rd.more {w : World} {r : Nat} {S : M.St} (h : Rd w r S) (hn : S.n ≠ 2000) : Rd (w.setCell ⟨r, 5, none⟩ (.int .i64 ((S.n : Int) + 1))) r S.more := by
  obtain ⟨⟨v, hh, ht⟩, hf, hl⟩ := h
  have ho : Only r w (w.setCell ⟨r, 5, none⟩ (.int .i64 ((S.n : Int) + 1))) := (Only.refl r w).setCell (.inl rfl) _
  refine ⟨⟨v, ?_, ht.only ho⟩, hf, by show S.n + 1 ≤ 2000; omega, hl.2⟩
  rw [heap_setCell_same _ _ _ _ _ _ hh]
  show _ = some (Obj.cells #[_, _, _, _, _, .int .i64 ((S.n + 1 : Nat) : Int), _] _ _)
  rw [Int.natCast_add]
  rfl
theorem Rd.down {w : World} {r : Nat} {S : M.St} (h : Rd w r S) (hn : S.d ≠ 32) : Rd (w.setCell ⟨r, 6, none⟩ (.int .i64 ((S.d : Int) + 1))) r S.down := by
  obtain ⟨⟨v, hh, ht⟩, hf, hl⟩ := h
  have ho : Only r w (w.setCell ⟨r, 6, none⟩ (.int .i64 ((S.d : Int) + 1))) := (Only.refl r w).setCell (.inl rfl) _
  refine ⟨⟨v, ?_, ht.only ho⟩, hf, hl.1, by show S.d + 1 ≤ 32; omega⟩
  rw [heap_setCell_same _ _ _ _ _ _ hh]
  show _ = some (Obj.cells #[_, _, _, _, _, _, .int .i64 ((S.d + 1 : Nat) : Int)] _ _)
  rw [Int.natCast_add]
  rfl
theorem Rd.up {w : World} {r : Nat} {S : M.St} (h : Rd w r S) (hn : 1 ≤ S.d) : Rd (w.setCell ⟨r, 6, none⟩ (.int .i64 ((S.d : Int) - 1))) r S.up := by
  obtain ⟨⟨v, hh, ht⟩, hf, hl⟩ := h
  have ho : Only r w (w.setCell ⟨r, 6, none⟩ (.int .i64 ((S.d : Int) - 1))) := (Only.refl r w).setCell (.inl rfl) _
  refine ⟨⟨v, ?_, ht.only ho⟩, hf, hl.1, by show S.d - 1 ≤ 32; have := hl.2; omega⟩
  rw [heap_setCell_same _ _ _ _ _ _ hh]
  show _ = some (Obj.cells #[_, _, _, _, _, _, .int .i64 ((S.d - 1 : Nat) : Int)] _ _)
  rw [Int.natCast_sub hn]
  rfl

set_option maxRecDepth 8000 in
set_option maxHeartbeats 1600000 in
theorem branch_any (N : Nat) (hB : BlockC N) (r : Nat) (S : M.St) (w : World) (h : Rd w r S) (hN : S.rest.length < N) :
    Calls Tryz.prog 133 #[.pointer (some ⟨r, 0, none⟩)] w (Ends r w (stmEnc w) (M.branch (M.blk N) S)) := by
  have hlt := h.lt
  have ha := h.alloc zero8
  have o0 : Only r w (w.alloc zero8) := (Only.refl r w).alloc _
  have HR : Hid (M.branch (M.blk N) S = M.bnd (M.oneOperand S) fun S1 a => M.bnd (M.blk N S1) fun S2 th =>
    if S2.at M.kElse = true then M.bnd (M.blk N S2.adv) fun S3 el => .ok (S3, M.one 9 M.em M.em M.em a [] th el)
    else .ok (S2, M.one 9 M.em M.em M.em a [] th .nil)) := rfl
  go_enter Tryz.func133, Tryz.ntmps133
  go_wp2_with fail
  refine (oneOperand_any r S _ ha).mono ?_
  rintro e w2 ⟨o2, hok, herr⟩
  cases hop : M.oneOperand S with
  | error f =>
    obtain rfl := herr f hop
    exact ⟨rfl, Ends.err (by rw [HR.out, hop]; rfl) (o0.trans o2)⟩
  | ok p =>
    obtain ⟨S2, l⟩ := p
    obtain ⟨v2, rfl, r2, hA⟩ := hok S2 l hop
    obtain ⟨aa, ca, rfl⟩ := SlAt.form hA
    have hsh2 := (M.oneOperand_le hop).rest
    have ra := r2.alloc (.cells #[.int .i64 9, .string ⟨#[]⟩, .string ⟨#[]⟩, .string ⟨#[]⟩, .slice aa l.length ca, .slice none 0 0, .slice none 0 0, .slice none 0 0] 32)
    clear hok herr
    go_wp2_with fail
    refine (hB r S2 _ ra (by omega)).mono ?_
    rintro e w3 ⟨o3, hok, herr⟩
    have o23 : Only r w2 w3 := ((Only.refl r w2).alloc _).trans o3
    cases hbl : M.blk N S2 with
    | error f =>
      obtain rfl := herr f hbl
      exact ⟨rfl, Ends.err (by rw [HR.out, hop]; simp only [M.bnd, hbl]) (o0.trans (o2.trans o23))⟩
    | ok p =>
      obtain ⟨S3, th⟩ := p
      obtain ⟨v3, rfl, r3, hT⟩ := hok S3 th hbl
      have hT' : StmAt w3 (Old (w2.alloc (.cells #[.int .i64 9, .string ⟨#[]⟩, .string ⟨#[]⟩, .string ⟨#[]⟩, .slice aa l.length ca, .slice none 0 0, .slice none 0 0, .slice none 0 0] 32))) v3 th := hT
      obtain ⟨at3, ct3, rfl⟩ := hT'.form
      have hsh3 := (M.blk_le N hbl).rest
      have hz2 := o2.size
      rw [World.size_alloc] at hz2
      have hz3 := o23.size
      have hL := kept_new o3 r2.lt
      obtain ⟨k0, k1, k2, k3, k4, k5, k6, k7, kf, kz⟩ := cells8 hL
      have hg := kept8 (o2.trans o23) hlt
      have hLr : r < w2.heap.size := r2.lt
      have hgL : ¬ w.heap.size = w2.heap.size := by omega
      have hLg : ¬ w2.heap.size = w.heap.size := by omega
      have rS := r3.setCell (p := ⟨w2.heap.size, 6, none⟩) hLr (.slice at3 th.len ct3)
      have oS : Only r w (w3.setCell ⟨w2.heap.size, 6, none⟩ (.slice at3 th.len ct3)) := (o0.trans (o2.trans o23)).setCell (.inr (by show w.heap.size ≤ w2.heap.size; omega)) _
      have hLS : (w3.setCell ⟨w2.heap.size, 6, none⟩ (.slice at3 th.len ct3)).heap[w2.heap.size]? = some (.cells #[.int .i64 9, .string ⟨#[]⟩, .string ⟨#[]⟩, .string ⟨#[]⟩, .slice aa l.length ca, .slice none 0 0, .slice at3 th.len ct3, .slice none 0 0] 32 (0, 0)) := heap_setCell_same _ _ _ _ _ _ hL
      have hgS : (w3.setCell ⟨w2.heap.size, 6, none⟩ (.slice at3 th.len ct3)).heap[w.heap.size]? = some zero8 := (Below.heap_setCell _ _ _ _ hgL).trans hg
      have hzS : (w3.setCell ⟨w2.heap.size, 6, none⟩ (.slice at3 th.len ct3)).heap.size = w3.heap.size := by simp [World.setCell]
      have kS : Keep (Old (w2.alloc (.cells #[.int .i64 9, .string ⟨#[]⟩, .string ⟨#[]⟩, .string ⟨#[]⟩, .slice aa l.length ca, .slice none 0 0, .slice none 0 0, .slice none 0 0] 32))) w3 (w3.setCell ⟨w2.heap.size, 6, none⟩ (.slice at3 th.len ct3)) := keep_set (by show w2.heap.size < _; simp) _
      have hTS := hT'.keep kS
      have hAS : OpsAt (w3.setCell ⟨w2.heap.size, 6, none⟩ (.slice at3 th.len ct3)) (fun b => b < w.heap.size + 1 ∨ b = r ∨ b = w2.heap.size) (.slice aa l.length ca) l := by
        have h1 : OpsAt w2 (fun b => b < w.heap.size + 1 ∨ b = r ∨ b = w2.heap.size) (.slice aa l.length ca) l := SlAt.weak hA fun b hb hx hy => by
          have hx' : ¬ b < (w.alloc zero8).heap.size := hx
          rw [World.size_alloc] at hx'
          rcases hy with hy | hy | hy <;> omega
        exact SlAt.keep (SlAt.keep h1 (o23.keep (.inr (.inl rfl)))) (keep_set (.inr (.inr rfl)) _)
      clear hok herr
      cases he : S3.at M.kElse
      · have HR2 : Hid (M.branch (M.blk N) S = .ok (S3, M.one 9 M.em M.em M.em l [] th .nil)) := by unfold Hid; rw [HR.out, hop]; simp only [M.bnd, hbl, he]; rfl
        go_wp2_with fail
        generalize hWS : w3.setCell ⟨w2.heap.size, 6, none⟩ (.slice at3 th.len ct3) = WS at rS oS hLS hgS hzS kS hTS hAS ⊢
        have HWS := hid hWS
        have HZS := hid hzS
        clear hWS hzS
        refine (passIf_no r S3 M.kElse _ rS he).mono ?_
        rintro e w' ⟨rfl, rfl⟩
        obtain ⟨k0, k1, k2, k3, k4, k5, k6, k7, kf, kz⟩ := cells8 hLS
        obtain ⟨q0, q1, q2, q3, q4, q5, q6, q7, qf, qz⟩ := cells8 hgS
        go_wp2_with fail
        refine ret8 (enc := stmEnc w) (res := M.branch (M.blk N) S) (S' := S3) (res_branch (by rfl) (put8_at hgS _ _ _ _ _ _ _ _)) HR2.out (put8_only oS (Nat.le_refl _) _ _ _ _ _ _ _ _) (put8_rd rS hlt _ _ _ _ _ _ _ _) ⟨_, _, _, _, _, _, _, _, _, _, _, _, rfl, rfl, ?_, StrsAt.nil _ _, hTS.fresh (put8_keep (by show w.heap.size < _; rw [World.size_alloc]; omega) _ _ _ _ _ _ _ _) (by rw [World.size_alloc]; omega), StmAt.nil _ _⟩
        exact (SlAt.keep hAS (put8_keep (.inl (by omega)) _ _ _ _ _ _ _ _)).weak fun b _ hx hy => hx (.inl (by have : b < w.heap.size := hy; omega))
      · have HR2 : Hid (M.branch (M.blk N) S = M.bnd (M.blk N S3.adv) fun S4 el => .ok (S4, M.one 9 M.em M.em M.em l [] th el)) := by unfold Hid; rw [HR.out, hop]; simp only [M.bnd, hbl, he]; rfl
        have hsh4 := (M.adv_le S3).rest
        go_wp2_with fail
        generalize hWS : w3.setCell ⟨w2.heap.size, 6, none⟩ (.slice at3 th.len ct3) = WS at rS oS hLS hgS hzS kS hTS hAS ⊢
        have HWS := hid hWS
        have HZS := hid hzS
        clear hWS hzS
        refine (passIf_yes r S3 M.kElse _ rS he (by decide)).mono ?_
        rintro e w4 ⟨rfl, r4, o4⟩
        go_wp2_with fail
        refine (hB r S3.adv _ r4 (by omega)).mono ?_
        rintro e w5 ⟨o5, hok, herr⟩
        have o45 := o4.trans o5
        cases hb2 : M.blk N S3.adv with
        | error f =>
          obtain rfl := herr f hb2
          exact ⟨rfl, Ends.err (by rw [HR2.out, hb2]; rfl) (oS.trans o45)⟩
        | ok p =>
          obtain ⟨S5, el⟩ := p
          obtain ⟨v5, rfl, r5, hE⟩ := hok S5 el hb2
          have hE' : StmAt w5 (Old w4) v5 el := hE
          obtain ⟨ae, ce, rfl⟩ := hE'.form
          have hz4 := o4.size
          have hzz := HZS.out
          have hL5 := (o45.block w2.heap.size (by omega) (by omega)).trans hLS
          have hg5 := (o45.block w.heap.size (by omega) (by omega)).trans hgS
          have hT5 := hTS.keep (o45.keep (show r < _ by rw [World.size_alloc]; omega))
          have hA5 := SlAt.keep hAS (o45.keep (.inr (.inl rfl)))
          have hL6 : (w5.setCell ⟨w2.heap.size, 7, none⟩ (.slice ae el.len ce)).heap[w2.heap.size]? = some (.cells #[.int .i64 9, .string ⟨#[]⟩, .string ⟨#[]⟩, .string ⟨#[]⟩, .slice aa l.length ca, .slice none 0 0, .slice at3 th.len ct3, .slice ae el.len ce] 32 (0, 0)) := heap_setCell_same _ _ _ _ _ _ hL5
          have hg6 : (w5.setCell ⟨w2.heap.size, 7, none⟩ (.slice ae el.len ce)).heap[w.heap.size]? = some zero8 := (Below.heap_setCell _ _ _ _ hgL).trans hg5
          have hT6 := hT5.keep (keep_set (X := Old (w2.alloc (.cells #[.int .i64 9, .string ⟨#[]⟩, .string ⟨#[]⟩, .string ⟨#[]⟩, .slice aa l.length ca, .slice none 0 0, .slice none 0 0, .slice none 0 0] 32))) (w := w5) (p := ⟨w2.heap.size, 7, none⟩) (show w2.heap.size < (w2.alloc (.cells #[.int .i64 9, .string ⟨#[]⟩, .string ⟨#[]⟩, .string ⟨#[]⟩, .slice aa l.length ca, .slice none 0 0, .slice none 0 0, .slice none 0 0] 32)).heap.size by rw [World.size_alloc]; omega) (.slice ae el.len ce))
          have hA6 := SlAt.keep hA5 (keep_set (w := w5) (p := ⟨w2.heap.size, 7, none⟩) (.inr (.inr rfl)) (.slice ae el.len ce))
          have hE6 := hE'.keep (keep_set (X := Old w4) (w := w5) (p := ⟨w2.heap.size, 7, none⟩) (show w2.heap.size < w4.heap.size by omega) (.slice ae el.len ce))
          obtain ⟨k0, k1, k2, k3, k4, k5, k6, k7, kf, kz⟩ := cells8 hL5
          obtain ⟨q0, q1, q2, q3, q4, q5, q6, q7, qf, qz⟩ := cells8 hg5
          clear hok herr
          go_wp2_with fail
          refine ret8 (enc := stmEnc w) (res := M.branch (M.blk N) S) (S' := S5) (res_branch (by rfl) (put8_at hg6 _ _ _ _ _ _ _ _)) (by rw [HR2.out, hb2]; rfl) (put8_only ((oS.trans o45).setCell (.inr (by show w.heap.size ≤ w2.heap.size; omega)) _) (Nat.le_refl _) _ _ _ _ _ _ _ _) (put8_rd (r5.setCell hLr _) hlt _ _ _ _ _ _ _ _) ⟨_, _, _, _, _, _, _, _, _, _, _, _, rfl, rfl, ?_, StrsAt.nil _ _, hT6.fresh (put8_keep (by show w.heap.size < _; rw [World.size_alloc]; omega) _ _ _ _ _ _ _ _) (by rw [World.size_alloc]; omega), hE6.fresh (put8_keep (by show w.heap.size < _; omega) _ _ _ _ _ _ _ _) (by omega)⟩
          exact (SlAt.keep hA6 (put8_keep (.inl (by omega)) _ _ _ _ _ _ _ _)).weak fun b _ hx hy => hx (.inl (by have : b < w.heap.size := hy; omega))
end Go.Proofs.YtkpmpnebmkeocaaGreatDoor
end
section
namespace Go.Proofs.YtkpmpnebmkeocaaGreatDoor
open Go.RowKit

theorem kept8at {w w1 : World} {r k : Nat} (h : Only r (w.alloc zero8) w1) (hr : r < w.heap.size) (hk : w.heap.size = k) : w1.heap[k]? = some (.cells #[.int .i64 0, .string ⟨#[]⟩, .string ⟨#[]⟩, .string ⟨#[]⟩, .slice none 0 0, .slice none 0 0, .slice none 0 0, .slice none 0 0] 32 (0, 0)) := by
  subst hk; exact kept8 h hr

set_option maxRecDepth 8000 in
set_option maxHeartbeats 1600000 in
theorem statement_no (N : Nat) (hB : BlockC N) (r : Nat) (S : M.St) (w : World) (h : Rd w r S) (hN : S.rest.length ≤ N) (hs : S.atStmt = false) :
    Calls Tryz.prog 122 #[.pointer (some ⟨r, 0, none⟩)] w (Ends r w (stmEnc w) (M.stmt (M.blk N) S)) := by
  have hlt := h.lt
  have ha := h.alloc zero8
  have o0 : Only r w (w.alloc zero8) := (Only.refl r w).alloc _
  have hst := atStatement_any r S _ ha
  rw [hs] at hst
  go_enter Tryz.func122, Tryz.ntmps122
  go_wp2_with fail
  refine hst.mono ?_
  rintro e w' ⟨rfl, rfl⟩
  go_wp2_with fail
  refine (must_no r S _ ha).mono ?_
  rintro e w' ⟨rfl, rfl⟩
  exact ⟨rfl, Ends.err (by simp [M.stmt, hs, M.fail]) o0⟩

set_option maxRecDepth 8000 in
set_option maxHeartbeats 1600000 in
theorem statement_many (N : Nat) (hB : BlockC N) (r : Nat) (S : M.St) (w : World) (h : Rd w r S) (hN : S.rest.length ≤ N) (hs : S.atStmt = true) (hn : S.n = 2000) :
    Calls Tryz.prog 122 #[.pointer (some ⟨r, 0, none⟩)] w (Ends r w (stmEnc w) (M.stmt (M.blk N) S)) := by
  have hlt := h.lt
  have ha := h.alloc zero8
  have o0 : Only r w (w.alloc zero8) := (Only.refl r w).alloc _
  have hst := atStatement_any r S _ ha
  rw [hs] at hst
  go_enter Tryz.func122, Tryz.ntmps122
  go_wp2_with fail
  refine hst.mono ?_
  rintro e w' ⟨rfl, rfl⟩
  go_wp2_with fail
  refine (must_yes r _).mono ?_
  rintro e w' ⟨rfl, rfl⟩
  obtain ⟨⟨v, hh, htt⟩, _, _⟩ := id h
  obtain ⟨hv, hfin, hk, ht, hp, hn5, hd, hfree, hlt'⟩ := cells7 hh
  rw [hn] at hn5
  go_wp2_with fail
  refine (fail_any r S _ _ ha).mono ?_
  rintro e w' ⟨rfl, rfl⟩
  exact ⟨rfl, Ends.err (by simp [M.stmt, hs, hn, M.fail]) o0⟩

set_option maxRecDepth 8000 in
set_option maxHeartbeats 1600000 in
theorem statement_if (N : Nat) (hB : BlockC N) (r : Nat) (S : M.St) (w : World) (h : Rd w r S) (hN : S.rest.length ≤ N) (hs : S.atStmt = true) (hn : ¬ S.n = 2000) (h1 : S.at M.kIf = true) :
    Calls Tryz.prog 122 #[.pointer (some ⟨r, 0, none⟩)] w (Ends r w (stmEnc w) (M.stmt (M.blk N) S)) := by
  have hlt := h.lt
  have ha := h.alloc zero8
  have o0 : Only r w (w.alloc zero8) := (Only.refl r w).alloc _
  have hst := atStatement_any r S _ ha
  rw [hs] at hst
  have hl20 := h.lim.1
  have hnb : ((S.n : Int) == 2000) = false := by simp; omega
  have rm := (h.more hn).alloc zero8
  have om : Only r w (w.setCell ⟨r, 5, none⟩ (.int .i64 ((S.n : Int) + 1))) := (Only.refl r w).setCell (.inl rfl) _
  have om0 : Only r w ((w.setCell ⟨r, 5, none⟩ (.int .i64 ((S.n : Int) + 1))).alloc zero8) := om.alloc _
  have hzm : (w.setCell ⟨r, 5, none⟩ (.int .i64 ((S.n : Int) + 1))).heap.size = w.heap.size := by simp [World.setCell]
  have HR : Hid (M.stmt (M.blk N) S = M.branch (M.blk N) S.more.adv) := by unfold Hid; simp [M.stmt, hs, hn, h1]
  have hsh : S.more.adv.rest.length < S.rest.length := M.adv_short (S := S.more) (M.atStmt_ne hs)
  go_enter Tryz.func122, Tryz.ntmps122
  go_wp2_with fail
  refine hst.mono ?_
  rintro e w' ⟨rfl, rfl⟩
  go_wp2_with fail
  refine (must_yes r _).mono ?_
  rintro e w' ⟨rfl, rfl⟩
  obtain ⟨⟨v, hh, htt⟩, _, _⟩ := id h
  obtain ⟨hv, hfin, hk, ht, hp, hn5, hd, hfree, hlt'⟩ := cells7 hh
  generalize hwm : (w.setCell ⟨r, 5, none⟩ (.int .i64 ((S.n : Int) + 1))) = wm at rm om om0 hzm
  have HWM := hid hwm
  have HZM := hid hzm
  clear hwm hzm
  go_wp2_with fail
  rw [HWM.out]
  refine (passIf_yes r S.more M.kIf _ rm h1 (by decide)).mono ?_
  rintro e w1 ⟨rfl, r1, o1⟩
  go_wp2_with fail
  refine (branch_any N hB r S.more.adv _ r1 (by omega)).mono ?_
  rintro e w2 ⟨o2, hok, herr⟩
  cases hbr : M.branch (M.blk N) S.more.adv with
  | error f =>
    obtain rfl := herr f hbr
    exact ⟨rfl, Ends.err (by rw [HR.out, hbr]) (om0.trans (o1.trans o2))⟩
  | ok p =>
    obtain ⟨S2, t⟩ := p
    obtain ⟨v2, rfl, r2, op, x, y, pn, l, pr, th, el, va, vp, vt, ve, rfl, rfl, hA, hP, hT, hE⟩ := hok S2 t hbr
    obtain ⟨aa, ca, rfl⟩ := SlAt.form hA
    obtain ⟨ap, cp, rfl⟩ := SlAt.form hP
    obtain ⟨a3, c3, rfl⟩ := StmAt.form hT
    obtain ⟨a4, c4, rfl⟩ := StmAt.form hE
    have hz1 := o1.size
    rw [World.size_alloc, HZM.out] at hz1
    have hg := kept8at (o1.trans o2) (by have := HZM.out; omega) HZM.out
    obtain ⟨q0, q1, q2, q3, q4, q5, q6, q7, qf, qz⟩ := cells8 hg
    clear hok herr
    go_wp2_with fail
    have kp : Keep (Old w1) w2 (put8 w2 w.heap.size (.int .i64 op) (.string x) (.string y) (.string pn) (.slice aa l.length ca) (.slice ap pr.length cp) (.slice a3 th.len c3) (.slice a4 el.len c4)) := put8_keep (by show w.heap.size < _; omega) _ _ _ _ _ _ _ _
    exact ret8 (enc := stmEnc w) (res := M.stmt (M.blk N) S) (S' := S2) (res_statement (by rfl) (put8_at hg _ _ _ _ _ _ _ _)) (by rw [HR.out, hbr]) (put8_only (om0.trans (o1.trans o2)) (Nat.le_refl _) _ _ _ _ _ _ _ _) (put8_rd r2 hlt _ _ _ _ _ _ _ _) ⟨_, _, _, _, _, _, _, _, _, _, _, _, rfl, rfl, OpsAt.fresh hA kp (by omega), StrsAt.fresh hP kp (by omega), StmAt.fresh hT kp (by omega), StmAt.fresh hE kp (by omega)⟩

set_option maxRecDepth 8000 in
set_option maxHeartbeats 1600000 in
theorem statement_while (N : Nat) (hB : BlockC N) (r : Nat) (S : M.St) (w : World) (h : Rd w r S) (hN : S.rest.length ≤ N) (hs : S.atStmt = true) (hn : ¬ S.n = 2000) (h1 : S.at M.kIf = false) (h2 : S.at M.kWhile = true) :
    Calls Tryz.prog 122 #[.pointer (some ⟨r, 0, none⟩)] w (Ends r w (stmEnc w) (M.stmt (M.blk N) S)) := by
  have hlt := h.lt
  have ha := h.alloc zero8
  have o0 : Only r w (w.alloc zero8) := (Only.refl r w).alloc _
  have hst := atStatement_any r S _ ha
  rw [hs] at hst
  have hl20 := h.lim.1
  have hnb : ((S.n : Int) == 2000) = false := by simp; omega
  have rm := (h.more hn).alloc zero8
  have om : Only r w (w.setCell ⟨r, 5, none⟩ (.int .i64 ((S.n : Int) + 1))) := (Only.refl r w).setCell (.inl rfl) _
  have om0 : Only r w ((w.setCell ⟨r, 5, none⟩ (.int .i64 ((S.n : Int) + 1))).alloc zero8) := om.alloc _
  have hzm : (w.setCell ⟨r, 5, none⟩ (.int .i64 ((S.n : Int) + 1))).heap.size = w.heap.size := by simp [World.setCell]
  have HR : Hid (M.stmt (M.blk N) S = M.loopS (M.blk N) S.more.adv) := by unfold Hid; simp [M.stmt, hs, hn, h1, h2]
  have hsh : S.more.adv.rest.length < S.rest.length := M.adv_short (S := S.more) (M.atStmt_ne hs)
  go_enter Tryz.func122, Tryz.ntmps122
  go_wp2_with fail
  refine hst.mono ?_
  rintro e w' ⟨rfl, rfl⟩
  go_wp2_with fail
  refine (must_yes r _).mono ?_
  rintro e w' ⟨rfl, rfl⟩
  obtain ⟨⟨v, hh, htt⟩, _, _⟩ := id h
  obtain ⟨hv, hfin, hk, ht, hp, hn5, hd, hfree, hlt'⟩ := cells7 hh
  generalize hwm : (w.setCell ⟨r, 5, none⟩ (.int .i64 ((S.n : Int) + 1))) = wm at rm om om0 hzm
  have HWM := hid hwm
  have HZM := hid hzm
  clear hwm hzm
  go_wp2_with fail
  rw [HWM.out]
  refine (passIf_no r S.more M.kIf _ rm h1).mono ?_
  rintro e w' ⟨rfl, rfl⟩
  go_wp2_with fail
  refine (passIf_yes r S.more M.kWhile _ rm h2 (by decide)).mono ?_
  rintro e w1 ⟨rfl, r1, o1⟩
  have hz1 := o1.size
  rw [World.size_alloc, HZM.out] at hz1
  go_wp2_with fail
  refine (oneOperand_any r S.more.adv _ r1).mono ?_
  rintro e w2 ⟨o2, hok, herr⟩
  cases hop : M.oneOperand S.more.adv with
  | error f =>
    obtain rfl := herr f hop
    exact ⟨rfl, Ends.err (by rw [HR.out, M.loopS, hop]; rfl) (om0.trans (o1.trans o2))⟩
  | ok p =>
    obtain ⟨S2, l⟩ := p
    obtain ⟨v2, rfl, r2, hA⟩ := hok S2 l hop
    have hA' : OpsAt w2 (Old w1) v2 l := hA
    obtain ⟨aa, ca, rfl⟩ := SlAt.form hA'
    have hsh2 := (M.oneOperand_le hop).rest
    have ra := r2.alloc (.cells #[.int .i64 10, .string ⟨#[]⟩, .string ⟨#[]⟩, .string ⟨#[]⟩, .slice aa l.length ca, .slice none 0 0, .slice none 0 0, .slice none 0 0] 32)
    have hz2 := o2.size
    clear hok herr
    go_wp2_with fail
    refine (hB r S2 _ ra (by omega)).mono ?_
    rintro e w3 ⟨o3, hok, herr⟩
    have o23 : Only r w2 w3 := ((Only.refl r w2).alloc _).trans o3
    cases hbl : M.blk N S2 with
    | error f =>
      obtain rfl := herr f hbl
      exact ⟨rfl, Ends.err (by rw [HR.out, M.loopS, hop]; simp only [M.bnd, hbl]) (om0.trans (o1.trans (o2.trans o23)))⟩
    | ok p =>
      obtain ⟨S3, th⟩ := p
      obtain ⟨v3, rfl, r3, hT⟩ := hok S3 th hbl
      have hT' : StmAt w3 (Old (w2.alloc (.cells #[.int .i64 10, .string ⟨#[]⟩, .string ⟨#[]⟩, .string ⟨#[]⟩, .slice aa l.length ca, .slice none 0 0, .slice none 0 0, .slice none 0 0] 32))) v3 th := hT
      obtain ⟨a3, c3, rfl⟩ := hT'.form
      have hL := kept_new o3 r2.lt
      have hg := kept8at (o1.trans (o2.trans o23)) (by have := HZM.out; omega) HZM.out
      obtain ⟨k0, k1, k2, k3, k4, k5, k6, k7, kf, kz⟩ := cells8 hL
      obtain ⟨q0, q1, q2, q3, q4, q5, q6, q7, qf, qz⟩ := cells8 hg
      have hgL : ¬ w.heap.size = w2.heap.size := by omega
      have hLg : ¬ w2.heap.size = w.heap.size := by omega
      have hLr : r < w2.heap.size := r2.lt
      clear hok herr
      go_wp2_with fail
      have hg' : (w3.setCell ⟨w2.heap.size, 6, none⟩ (.slice a3 th.len c3)).heap[w.heap.size]? = _ := (Below.heap_setCell _ _ _ _ hgL).trans hg
      have hO : Only r w (w3.setCell ⟨w2.heap.size, 6, none⟩ (.slice a3 th.len c3)) := (om0.trans (o1.trans (o2.trans o23))).setCell (.inr (by show w.heap.size ≤ w2.heap.size; omega)) _
      refine ret8 (enc := stmEnc w) (res := M.stmt (M.blk N) S) (S' := S3) (a := M.one 10 M.em M.em M.em l [] th .nil) (res_statement (by rfl) (put8_at hg' _ _ _ _ _ _ _ _)) (by rw [HR.out, M.loopS, hop]; simp only [M.bnd, hbl]) (put8_only hO (Nat.le_refl _) _ _ _ _ _ _ _ _) (put8_rd (r3.setCell hLr _) hlt _ _ _ _ _ _ _ _) ⟨10, M.em, M.em, M.em, l, [], th, .nil, _, _, _, _, rfl, rfl, ?_, StrsAt.nil _ _, hT'.fresh ((keep_set (by show w2.heap.size < _; simp) _).trans (put8_keep (by show w.heap.size < _; rw [World.size_alloc]; omega) _ _ _ _ _ _ _ _)) (by rw [World.size_alloc]; omega), StmAt.nil _ _⟩
      have h1' : OpsAt w2 (fun b => b < w.heap.size + 1 ∨ b = r ∨ b = w2.heap.size) (.slice aa l.length ca) l := SlAt.weak hA' fun b hb hx hy => by
        have hx' : ¬ b < w1.heap.size := hx
        rcases hy with hy | hy | hy <;> omega
      have h2' := SlAt.keep (SlAt.keep (SlAt.keep h1' (o23.keep (.inr (.inl rfl)))) (keep_set (p := ⟨w2.heap.size, 6, none⟩) (.inr (.inr rfl)) (.slice a3 th.len c3))) (put8_keep (g := w.heap.size) (.inl (by omega)) (.int .i64 10) (.string ⟨#[]⟩) (.string ⟨#[]⟩) (.string ⟨#[]⟩) (.slice aa l.length ca) (.slice none 0 0) (.slice a3 th.len c3) (.slice none 0 0))
      exact h2'.weak fun b _ hx hy => hx (.inl (by have : b < w.heap.size := hy; omega))

set_option maxRecDepth 8000 in
set_option maxHeartbeats 1600000 in
theorem statement_plain (N : Nat) (hB : BlockC N) (r : Nat) (S : M.St) (w : World) (h : Rd w r S) (hN : S.rest.length ≤ N) (hs : S.atStmt = true) (hn : ¬ S.n = 2000) (h1 : S.at M.kIf = false) (h2 : S.at M.kWhile = false) :
    Calls Tryz.prog 122 #[.pointer (some ⟨r, 0, none⟩)] w (Ends r w (stmEnc w) (M.stmt (M.blk N) S)) := by
  have hlt := h.lt
  have ha := h.alloc zero8
  have o0 : Only r w (w.alloc zero8) := (Only.refl r w).alloc _
  have hst := atStatement_any r S _ ha
  rw [hs] at hst
  have hl20 := h.lim.1
  have hnb : ((S.n : Int) == 2000) = false := by simp; omega
  have rm := (h.more hn).alloc zero8
  have om : Only r w (w.setCell ⟨r, 5, none⟩ (.int .i64 ((S.n : Int) + 1))) := (Only.refl r w).setCell (.inl rfl) _
  have om0 : Only r w ((w.setCell ⟨r, 5, none⟩ (.int .i64 ((S.n : Int) + 1))).alloc zero8) := om.alloc _
  have hzm : (w.setCell ⟨r, 5, none⟩ (.int .i64 ((S.n : Int) + 1))).heap.size = w.heap.size := by simp [World.setCell]
  have HR : Hid (M.stmt (M.blk N) S = M.bnd (M.plain S.more) fun S1 t => M.bnd (M.take S1 (M.ch 59)) fun S2 _ => .ok (S2, t)) := by unfold Hid; simp [M.stmt, hs, hn, h1, h2]
  go_enter Tryz.func122, Tryz.ntmps122
  go_wp2_with fail
  refine hst.mono ?_
  rintro e w' ⟨rfl, rfl⟩
  go_wp2_with fail
  refine (must_yes r _).mono ?_
  rintro e w' ⟨rfl, rfl⟩
  obtain ⟨⟨v, hh, htt⟩, _, _⟩ := id h
  obtain ⟨hv, hfin, hk, ht, hp, hn5, hd, hfree, hlt'⟩ := cells7 hh
  generalize hwm : (w.setCell ⟨r, 5, none⟩ (.int .i64 ((S.n : Int) + 1))) = wm at rm om om0 hzm
  have HWM := hid hwm
  have HZM := hid hzm
  clear hwm hzm
  go_wp2_with fail
  rw [HWM.out]
  refine (passIf_no r S.more M.kIf _ rm h1).mono ?_
  rintro e w' ⟨rfl, rfl⟩
  go_wp2_with fail
  refine (passIf_no r S.more M.kWhile _ rm h2).mono ?_
  rintro e w' ⟨rfl, rfl⟩
  generalize hwz : wm.alloc zero8 = wz at rm om0 ⊢
  have HWZ := hid hwz
  have hzz : wz.heap.size = w.heap.size + 1 := by rw [← hwz, World.size_alloc, HZM.out]
  have HZZ := hid hzz
  clear hwz hzz
  go_wp2_with fail
  refine (plain_any r S.more _ rm).mono ?_
  rintro e w2 ⟨o2, hok, herr⟩
  cases hbr : M.plain S.more with
  | error f =>
    obtain rfl := herr f hbr
    exact ⟨rfl, Ends.err (by rw [HR.out, hbr]; rfl) (om0.trans o2)⟩
  | ok p =>
    obtain ⟨S2, t⟩ := p
    obtain ⟨v2, rfl, r2, op, x, y, pn, l, pr, th, el, va, vp, vt, ve, rfl, rfl, hA, hP, hT, hE⟩ := hok S2 t hbr
    obtain ⟨aa, ca, rfl⟩ := SlAt.form hA
    obtain ⟨ap, cp, rfl⟩ := SlAt.form hP
    obtain ⟨a3, c3, rfl⟩ := StmAt.form hT
    obtain ⟨a4, c4, rfl⟩ := StmAt.form hE
    have hz2 := o2.size
    rw [HZZ.out] at hz2
    have ra := r2.alloc (.cells #[.int .i64 op, .string x, .string y, .string pn, .slice aa l.length ca, .slice ap pr.length cp, .slice a3 th.len c3, .slice a4 el.len c4] 32)
    clear hok herr
    go_wp2_with fail
    refine (take_any r S2 (M.ch 59) _ ra (by decide)).mono ?_
    rintro e w3 ⟨o3, hok, herr⟩
    have o23 : Only r w2 w3 := ((Only.refl r w2).alloc _).trans o3
    cases htk : M.take S2 (M.ch 59) with
    | error f =>
      obtain rfl := herr f htk
      exact ⟨rfl, Ends.err (by rw [HR.out, hbr]; simp only [M.bnd, htk]) (om0.trans (o2.trans o23))⟩
    | ok p =>
      obtain ⟨S3, u⟩ := p
      obtain ⟨v3, rfl, r3, hv3⟩ := hok S3 u htk
      obtain rfl : v3 = .tuple #[] := hv3
      have hL := kept_new o3 r2.lt
      have hoz : Only r (wm.alloc zero8) w3 := by rw [HWZ.out]; exact o2.trans o23
      have hg := kept8at hoz (by have := HZM.out; omega) HZM.out
      obtain ⟨k0, k1, k2, k3, k4, k5, k6, k7, kf, kz⟩ := cells8 hL
      obtain ⟨q0, q1, q2, q3, q4, q5, q6, q7, qf, qz⟩ := cells8 hg
      clear hok herr
      go_wp2_with fail
      have hzz := HZZ.out
      have kp : Keep (Old wz) w2 (put8 w3 w.heap.size (.int .i64 op) (.string x) (.string y) (.string pn) (.slice aa l.length ca) (.slice ap pr.length cp) (.slice a3 th.len c3) (.slice a4 el.len c4)) := (o23.keep (by show r < _; omega)).trans (put8_keep (by show w.heap.size < _; omega) _ _ _ _ _ _ _ _)
      exact ret8 (enc := stmEnc w) (res := M.stmt (M.blk N) S) (S' := S3) (res_statement (by rfl) (put8_at hg _ _ _ _ _ _ _ _)) (by rw [HR.out, hbr]; simp only [M.bnd, htk]) (put8_only (om0.trans (o2.trans o23)) (Nat.le_refl _) _ _ _ _ _ _ _ _) (put8_rd r3 hlt _ _ _ _ _ _ _ _) ⟨_, _, _, _, _, _, _, _, _, _, _, _, rfl, rfl, OpsAt.fresh hA kp (by omega), StrsAt.fresh hP kp (by omega), StmAt.fresh hT kp (by omega), StmAt.fresh hE kp (by omega)⟩

theorem statement_any (N : Nat) (hB : BlockC N) : StmtC N := by
  intro r S w h hN
  cases hs : S.atStmt
  · exact statement_no N hB r S w h hN hs
  · by_cases hn : S.n = 2000
    · exact statement_many N hB r S w h hN hs hn
    · cases h1 : S.at M.kIf
      · cases h2 : S.at M.kWhile
        · exact statement_plain N hB r S w h hN hs hn h1 h2
        · exact statement_while N hB r S w h hN hs hn h1 h2
      · exact statement_if N hB r S w h hN hs hn h1
end Go.Proofs.YtkpmpnebmkeocaaGreatDoor
end
section
namespace Go.Proofs.YtkpmpnebmkeocaaGreatDoor
open Go.RowKit

theorem infoStm : (Tryz.prog.info? 32).map (fun i => (i.zero, i.size, i.bytes)) = some (some (.agg #[.int .i64 0, .string ⟨#[]⟩, .string ⟨#[]⟩, .string ⟨#[]⟩, .slice none 0 0, .slice none 0 0, .slice none 0 0, .slice none 0 0]), 8, 152) := by kernel_rfl

def Avoid (w : World) (v : Value) : Nat → Prop := fun b => b < w.heap.size ∨ v.ownBlock = some b

theorem row_step {r g n cap : Nat} {w wr w3 w5 : World} {v : Value} {acc : M.Tr} {cs : List Value} {obj : Obj} {op : Int} {x y p : ByteArray} {a : List M.Opd} {pr : List ByteArray} {th el : M.Tr} {va vp vt ve : Value}
    (hr : r < w.heap.size) (o : Only r w wr) (own : wr.ownsRow w.heap.size 32 8 v acc.len cs) (row : RowAt wr (Avoid w v) cs acc) (o3 : Only r wr w3)
    (hA : OpsAt w3 (Old wr) va a) (hP : StrsAt w3 (Old wr) vp pr) (hT : StmAt w3 (Old wr) vt th) (hE : StmAt w3 (Old wr) ve el)
    (hgrow : (w3.alloc obj).grownBy w5 v.ownBlock) (hat : v.ownBlock = some g ∨ g = w3.heap.size + 1) :
    RowAt w5 (Avoid w (.slice (some ⟨g, 0, none⟩) n cap)) (cs ++ [.int .i64 op, .string x, .string y, .string p, va, vp, vt, ve]) (acc.app (M.one op x y p a pr th el)) := by
  have hza : (w3.alloc obj).heap.size = w3.heap.size + 1 := World.size_alloc _ _
  have hob : ∀ k, v.ownBlock = some k → w.heap.size ≤ k ∧ k < wr.heap.size := fun k hk => own.lt k hk
  have hz3 := o3.size
  have hz0 := o.size
  -- the row's own blocks and g
  have row3 : RowAt (w3.alloc obj) (Avoid w v) cs acc := RowAt.keep (Below.keepX ((Below.refl _ _).alloc (Nat.le_refl _) obj)) (RowAt.keep (o3.keep (.inl hr)) row)
  have new3 : RowAt (w3.alloc obj) (Old wr) [.int .i64 op, .string x, .string y, .string p, va, vp, vt, ve] (M.one op x y p a pr th el) :=
    RowAt.keep (Below.keepX ((Below.refl _ _).alloc (Nat.le_refl _) obj)) (RowAt.one hA hP hT hE)
  have hweak : ∀ b, b < (w3.alloc obj).heap.size → (¬ Avoid w v b ∨ ¬ Old wr b) → ¬ (b < w.heap.size ∨ v.ownBlock = some b ∨ b = g) := by
    intro b hb hx hy
    rw [hza] at hb
    have h1 : ¬ (b < w.heap.size ∨ v.ownBlock = some b) := by
      intro h2
      rcases hx with hx | hx
      · exact hx h2
      · apply hx
        rcases h2 with h2 | h2
        · exact Nat.lt_of_lt_of_le h2 hz0
        · exact (hob b h2).2
    rcases hy with hy | hy | rfl
    · exact h1 (.inl hy)
    · exact h1 (.inr hy)
    · rcases hat with hat | hat
      · exact h1 (.inr hat)
      · omega
  have hx := RowAt.app (RowAt.weak (Y := fun b => b < w.heap.size ∨ v.ownBlock = some b ∨ b = g) (fun b hb hx => hweak b hb (.inl hx)) row3) (RowAt.weak (fun b hb hx => hweak b hb (.inr hx)) new3)
  refine RowAt.weak ?_ (RowAt.keep (keep_grown hgrow fun k hk => .inr (.inl hk)) hx)
  intro b _ hx hy
  apply hx
  rcases hy with hy | hy
  · exact .inl hy
  · simp only [Value.ownBlock, Option.some.injEq] at hy
    exact .inr (.inr hy.symm)

structure BlkIn (r N : Nat) (w wr : World) (k : Nat) (v : Value) (S2 : M.St) (acc : M.Tr) (cs : List Value) : Prop where
  rd : Rd wr r S2
  only : Only r w wr
  own : wr.ownsRow w.heap.size 32 8 v acc.len cs
  row : RowAt wr (Avoid w v) cs acc
  lt : S2.rest.length < k
  len : acc.len ≤ S2.n
  le : S2.rest.length ≤ N
  d : 1 ≤ S2.d

set_option maxRecDepth 8000 in
set_option maxHeartbeats 1600000 in
theorem block_main (N : Nat) (hS : StmtC N) (r : Nat) (S : M.St) (w : World) (h : Rd w r S) (hN : S.rest.length < N + 1) (h1 : S.at (M.ch 123) = true) (h2 : ¬ S.d = 32) :
    Calls Tryz.prog 108 #[.pointer (some ⟨r, 0, none⟩)] w (Ends r w (blkEnc w) (M.block (M.stmt (M.blk N)) S)) := by
  have hlt := h.lt
  have hat := at_any r S (M.ch 123) _ h
  rw [h1] at hat
  have hd32 : ((S.d : Int) == 32) = false := by simp; omega
  obtain ⟨i0, hi0, hz0, hz1, hz2⟩ := info_parts infoStm
  have htk : M.take S (M.ch 123) = .ok (S.adv, ()) := by simp [M.take, h1]
  have HR : Hid (M.block (M.stmt (M.blk N)) S = M.bnd (M.stmts (M.stmt (M.blk N)) (S.adv.rest.length + 1) S.adv.down .nil) fun S2 t => .ok (S2.up, t)) := by
    unfold Hid M.block; rw [if_neg (fun e => h2 e.2), htk]; rfl
  have hsh := M.adv_short (M.at_ne h1 (by decide))
  obtain ⟨⟨v0, hh, ht0⟩, _, hlim⟩ := id h
  obtain ⟨hv, hfin, hk, ht, hp, hn5, hd6, hfree, hlt'⟩ := cells7 hh
  go_enter Tryz.func108, Tryz.ntmps108
  go_wp2_with fail
  refine hat.mono ?_
  rintro e w' ⟨rfl, hw'⟩
  rw [hw']
  clear hw' w'
  go_wp2_with fail
  refine (take_any r S (M.ch 123) _ h (by decide)).mono ?_
  rintro e w1 ⟨o1, hok, herr⟩
  obtain ⟨v1, rfl, r1, hv1⟩ := hok _ _ htk
  obtain rfl : v1 = .tuple #[] := hv1
  clear hok herr hv hfin hk ht hp hn5 hd6 hfree
  obtain ⟨⟨v1, hh1, ht1⟩, _, _⟩ := id r1
  obtain ⟨hv, hfin, hk, ht, hp, hn5, hd6, hfree, hlt1⟩ := cells7 hh1
  have rD := r1.down (by show ¬ S.d = 32; exact h2)
  have oD : Only r w (w1.setCell ⟨r, 6, none⟩ (.int .i64 ((S.adv.d : Int) + 1))) := o1.setCell (.inl rfl) _
  have hd0 : (0 : Int) ≤ (S.adv.d : Int) := Int.natCast_nonneg _
  have hd1 : (S.adv.d : Int) ≤ 32 := by have := hlim.2; show (S.d : Int) ≤ 32; omega
  go_wp2_with fail
  generalize hwD : w1.setCell ⟨r, 6, none⟩ (.int .i64 ((S.adv.d : Int) + 1)) = wD at rD oD ⊢
  clear hwD
  clear hv hfin hk ht hp hn5 hd6 hfree
  go_loopg [3] (S.adv.rest.length + 1) (fun k v wr => ∃ S2 acc cs, BlkIn r N w wr k v S2 acc cs ∧ Hid (M.stmts (M.stmt (M.blk N)) (S.adv.rest.length + 1) S.adv.down .nil = M.stmts (M.stmt (M.blk N)) k S2 acc))
  case atStart =>
    exact ⟨S.adv.down, .nil, [], ⟨rD, oD, World.ownsRow_nil _ _ _ _, rfl, Nat.lt_succ_self _, Nat.zero_le _, by show S.adv.rest.length ≤ N; omega, by show 1 ≤ S.adv.d + 1; omega⟩, rfl⟩
  case round =>
    obtain ⟨S2, acc, cs, ⟨rd, only, own, row, hkl, len, le, hd⟩, HM⟩ := hrel
    cases gk with
    | zero => exact absurd hkl (by omega)
    | succ k =>
      cases hc : S2.at (M.ch 125)
      · have HM2 : Hid (M.block (M.stmt (M.blk N)) S = M.bnd (M.bnd (M.stmt (M.blk N) S2) fun S3 t => M.stmts (M.stmt (M.blk N)) k S3 (acc.app t)) fun S2 t => .ok (S2.up, t)) := by
          unfold Hid; rw [HR.out, HM.out]; simp only [M.stmts, hc]; rfl
        go_wp2_with fail
        refine (passIf_no r S2 (M.ch 125) _ rd hc).mono ?_
        rintro e w' ⟨rfl, rfl⟩
        go_wp2_with fail
        refine (hS r S2 _ rd le).mono ?_
        rintro e w3 ⟨o3, hok, herr⟩
        cases hst : M.stmt (M.blk N) S2 with
        | error f =>
          obtain rfl := herr f hst
          exact ⟨rfl, Ends.err (by rw [HM2.out, hst]; rfl) (only.trans o3)⟩
        | ok p =>
          obtain ⟨S3, t⟩ := p
          obtain ⟨v3, rfl, r3, op, x, y, pn, l, pr, th, el, va, vp, vt, ve, rfl, rfl, hA, hP, hT, hE⟩ := hok S3 t hst
          obtain ⟨aa, ca, rfl⟩ := SlAt.form hA
          obtain ⟨ap, cp, rfl⟩ := SlAt.form hP
          obtain ⟨a3, c3, rfl⟩ := StmAt.form hT
          obtain ⟨a4, c4, rfl⟩ := StmAt.form hE
          have hl3 := M.stmtN_lt hst
          have hlr := hl3.rest
          have hln := hl3.n
          have hld := hl3.d
          have hlim3 := r3.lim.1
          have own3 := ownsRow_only own o3 hlt
          have hz3 := o3.size
          have hzo := only.size
          have hm63 : acc.len + 1 ≤ maxLen := by unfold maxLen; omega
          have hmby : (acc.len + 1) * 152 ≤ 140737488355328 := by omega
          clear hok herr
          go_wp2_with (at_builtin; refine wpList_append_lies _ rfl _ _ 30 rfl w.heap.size 32 i0 _ 8 152 Tryz.underlying30 hi0 hz0 hz1 hz2 rfl (by decide) _ _ _ rfl (own3.alloc _) ⟨w3.heap.size, 0, none⟩ 1 1 [.int .i64 op, .string x, .string y, .string pn, .slice aa l.length ca, .slice ap pr.length cp, .slice a3 th.len c3, .slice a4 el.len c4] rfl rfl (World.news_of_block (cs := #[.int .i64 op, .string x, .string y, .string pn, .slice aa l.length ca, .slice ap pr.length cp, .slice a3 th.len c3, .slice a4 el.len c4]) (t := 32) (fr := (0, 0)) (heap_alloc_new w3 _)) (by simp [Value.oneCell']) Nat.one_pos hm63 hmby (by rw [World.size_alloc]; omega) (w3.heap.size + 1) (World.size_alloc _ _) ?_)
          intro gg cap' w5 hown5 hgrow hat5 hlt5
          go_wp2_with fail
          have hob := fun k' hk' => (own.lt k' hk').1
          go_roundg k
          case measure => omega
          case rel =>
            refine ⟨S3, acc.app (M.one op x y pn l pr th el), _, ⟨(r3.alloc _).grown hgrow fun k' hk' => by have := hob k' hk'; omega, ((only.trans o3).alloc _).grown hgrow hob, ?_, row_step hlt only own row o3 hA hP hT hE hgrow hat5, by omega, ?_, by omega, by omega⟩, ?_⟩
            · rw [M.app_len]; exact hown5
            · rw [M.app_len]; show acc.len + 1 ≤ S3.n; omega
            · unfold Hid; rw [HM.out]; simp only [M.stmts, hc, hst]; rfl
      · have HM2 : Hid (M.block (M.stmt (M.blk N)) S = .ok (S2.adv.up, acc)) := by
          unfold Hid; rw [HR.out, HM.out]; simp only [M.stmts, hc]; rfl
        go_wp2_with fail
        refine (passIf_yes r S2 (M.ch 125) _ rd hc (by decide)).mono ?_
        rintro e w3 ⟨rfl, r3, o3⟩
        obtain ⟨⟨v3, hh3, ht3⟩, _, hlim3⟩ := id r3
        obtain ⟨hv, hfin, hk, ht, hp, hn5, hd6, hfree, hlt3⟩ := cells7 hh3
        have hd0 : (1 : Int) ≤ (S2.adv.d : Int) := by show (1 : Int) ≤ (S2.d : Int); omega
        have hd1 : (S2.adv.d : Int) ≤ 32 := by have := hlim3.2; omega
        have rU := r3.up (by show 1 ≤ S2.d; exact hd)
        have hln := rd.lim.1
        go_wp2_with fail
        go_ret
        refine Ends.ok HM2.out ((only.trans o3).setCell (.inl rfl) _) rU ⟨cs, SlAt.of_owns (ownsRow_setCell_below (ownsRow_only own o3 hlt) (by show r < _; exact hlt) _) (fun b hb hx => by have : b < w.heap.size := hx; omega) (by omega), ?_⟩
        exact RowAt.weak (fun b _ hx hy => hx (.inl hy)) (RowAt.keep (keep_set (p := ⟨r, 6, none⟩) (.inl hlt) _) (RowAt.keep (o3.keep (.inl hlt)) row))

theorem block_any (N : Nat) (hS : StmtC N) : BlockC (N + 1) := by
  intro r S w h hN
  show Calls Tryz.prog 108 #[.pointer (some ⟨r, 0, none⟩)] w (Ends r w (blkEnc w) (M.block (M.stmt (M.blk N)) S))
  have hat := at_any r S (M.ch 123) _ h
  cases h1 : S.at (M.ch 123)
  · rw [h1] at hat
    have htk : M.take S (M.ch 123) = .error (20, S.now.p) := by simp [M.take, h1, M.fail]
    go_enter Tryz.func108, Tryz.ntmps108
    go_wp2_with fail
    refine hat.mono ?_
    rintro e w' ⟨rfl, hw'⟩
    rw [hw']
    clear hw' w'
    go_wp2_with fail
    refine (take_any r S (M.ch 123) _ h (by decide)).mono ?_
    rintro e w1 ⟨o1, hok, herr⟩
    obtain rfl := herr _ htk
    exact ⟨rfl, Ends.err (by unfold M.block; rw [if_neg (fun e => by rw [h1] at e; exact absurd e.1 (by decide)), htk]; rfl) o1⟩
  · by_cases h2 : S.d = 32
    · rw [h1] at hat
      obtain ⟨⟨v0, hh, ht0⟩, _, hlim⟩ := id h
      obtain ⟨hv, hfin, hk, ht, hp, hn5, hd6, hfree, hlt'⟩ := cells7 hh
      rw [h2] at hd6
      go_enter Tryz.func108, Tryz.ntmps108
      go_wp2_with fail
      refine hat.mono ?_
      rintro e w' ⟨rfl, hw'⟩
      rw [hw']
      clear hw' w'
      go_wp2_with fail
      refine (fail_any r S _ _ h).mono ?_
      rintro e w' ⟨rfl, rfl⟩
      exact ⟨rfl, Ends.err (by unfold M.block; rw [if_pos ⟨h1, h2⟩]; rfl) (Only.refl _ _)⟩
    · exact block_main N hS r S w h hN h1 h2

theorem blockC : ∀ N, BlockC N
  | 0 => fun r S w h hN => absurd hN (by omega)
  | N + 1 => block_any N (statement_any N (blockC N))
end Go.Proofs.YtkpmpnebmkeocaaGreatDoor
end
