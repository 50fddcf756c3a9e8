/-
  The walk of a reader's plain: a statement without blocks, up to its semicolon. No conditions.
-/
import Derived.Test.YtkonkdhoakcmdaaGreatDoorR10
set_option linter.unusedVariables false
namespace Go.Proofs.YtkonkdhoakcmdaaGreatDoor
open Go.RowKit

def stmEnc (w0 : World) : M.Tr → Value → World → Prop := fun t v w => ∃ op x y p a pr th el va vp vt ve, t = M.one op x y p a pr th el ∧ v = .agg #[.int .i64 op, .string x, .string y, .string p, va, vp, vt, ve] ∧
  OpsAt w (Old w0) va a ∧ StrsAt w (Old w0) vp pr ∧ StmAt w (Old w0) vt th ∧ StmAt w (Old w0) ve el
theorem stmEnc_mk {w0 w : World} {op : Int} {x y p : ByteArray} {a : List M.Opd} {pr : List ByteArray} {va vp : Value} (h1 : OpsAt w (Old w0) va a) (h2 : StrsAt w (Old w0) vp pr) :
    stmEnc w0 (M.one op x y p a pr .nil .nil) (.agg #[.int .i64 op, .string x, .string y, .string p, va, vp, .slice none 0 0, .slice none 0 0]) w :=
  ⟨op, x, y, p, a, pr, .nil, .nil, va, vp, _, _, rfl, rfl, h1, h2, StmAt.nil _ _, StmAt.nil _ _⟩
theorem StmAt.fresh {w W w3 w4 : World} {v : Value} {l : M.Tr} (h : StmAt w3 (Old W) v l) (hk : Keep (Old W) w3 w4) (hz : w.heap.size ≤ W.heap.size) : StmAt w4 (Old w) v l :=
  (h.keep hk).weak fun b _ hx hy => hx (Nat.lt_of_lt_of_le hy hz)

set_option maxRecDepth 8000 in
set_option maxHeartbeats 1600000 in
theorem plain_out (r : Nat) (S : M.St) (w : World) (h : Rd w r S) (h1 : S.at M.kOut = true) :
    Calls Tryz.prog 80 #[.pointer (some ⟨r, 0, none⟩)] w (Ends r w (stmEnc w) (M.plain S)) := by
  have hlt := h.lt
  have ha := h.alloc zero8
  have o0 : Only r w (w.alloc zero8) := (Only.refl r w).alloc _
  have HR : Hid (M.plain S = M.bnd (M.oneOperand S.adv) fun S1 a => .ok (S1, M.one 8 M.em M.em M.em a [] .nil .nil)) := by unfold Hid; simp [M.plain, h1]
  go_enter Tryz.func80, Tryz.ntmps80
  go_wp2_with fail
  refine (passIf_yes r S M.kOut _ ha h1 (by decide)).mono ?_
  rintro e w1 ⟨rfl, r1, o1⟩
  go_wp2_with fail
  refine (oneOperand_any r S.adv _ r1).mono ?_
  rintro e w2 ⟨o2, hok, herr⟩
  cases hnm : M.oneOperand S.adv with
  | error f =>
    obtain rfl := herr f hnm
    exact ⟨rfl, Ends.err (by rw [HR.out, hnm]; rfl) (o0.trans (o1.trans o2))⟩
  | ok p =>
    obtain ⟨S2, l⟩ := p
    obtain ⟨v2, rfl, r2, hA⟩ := hok S2 l hnm
    have hA' : OpsAt w2 (Old w1) v2 l := hA
    obtain ⟨aa, ca, rfl⟩ := SlAt.form hA'
    have hz1 := o1.size
    rw [World.size_alloc] at hz1
    have hg := kept8 (o1.trans o2) hlt
    obtain ⟨q0, q1, q2, q3, q4, q5, q6, q7, qf, qz⟩ := cells8 hg
    clear hok herr
    go_wp2_with fail
    exact ret8 (enc := stmEnc w) (res := M.plain S) (S' := S2) (res_plain (by rfl) (put8_at hg _ _ _ _ _ _ _ _)) (by rw [HR.out, hnm]; rfl) (put8_only (o0.trans (o1.trans o2)) (Nat.le_refl _) _ _ _ _ _ _ _ _) (put8_rd r2 hlt _ _ _ _ _ _ _ _) (stmEnc_mk (hA'.fresh (put8_keep (by show w.heap.size < _; omega) _ _ _ _ _ _ _ _) (by omega)) (StrsAt.nil _ _))

set_option maxRecDepth 8000 in
set_option maxHeartbeats 1600000 in
theorem plain_ret (r : Nat) (S : M.St) (w : World) (h : Rd w r S) (h1 : S.at M.kOut = false) (h2 : S.at M.kReturn = true) :
    Calls Tryz.prog 80 #[.pointer (some ⟨r, 0, none⟩)] w (Ends r w (stmEnc w) (M.plain S)) := by
  have hlt := h.lt
  have ha := h.alloc zero8
  have o0 : Only r w (w.alloc zero8) := (Only.refl r w).alloc _
  have HR : Hid (M.plain S = M.bnd (M.oneOperand S.adv) fun S1 a => .ok (S1, M.one 11 M.em M.em M.em a [] .nil .nil)) := by unfold Hid; simp [M.plain, h1, h2]
  go_enter Tryz.func80, Tryz.ntmps80
  go_wp2_with fail
  refine (passIf_no r S M.kOut _ ha h1).mono ?_
  rintro e w' ⟨rfl, rfl⟩
  go_wp2_with fail
  refine (passIf_yes r S M.kReturn _ ha h2 (by decide)).mono ?_
  rintro e w1 ⟨rfl, r1, o1⟩
  go_wp2_with fail
  refine (oneOperand_any r S.adv _ r1).mono ?_
  rintro e w2 ⟨o2, hok, herr⟩
  cases hnm : M.oneOperand S.adv with
  | error f =>
    obtain rfl := herr f hnm
    exact ⟨rfl, Ends.err (by rw [HR.out, hnm]; rfl) (o0.trans (o1.trans o2))⟩
  | ok p =>
    obtain ⟨S2, l⟩ := p
    obtain ⟨v2, rfl, r2, hA⟩ := hok S2 l hnm
    have hA' : OpsAt w2 (Old w1) v2 l := hA
    obtain ⟨aa, ca, rfl⟩ := SlAt.form hA'
    have hz1 := o1.size
    rw [World.size_alloc] at hz1
    have hg := kept8 (o1.trans o2) hlt
    obtain ⟨q0, q1, q2, q3, q4, q5, q6, q7, qf, qz⟩ := cells8 hg
    clear hok herr
    go_wp2_with fail
    exact ret8 (enc := stmEnc w) (res := M.plain S) (S' := S2) (res_plain (by rfl) (put8_at hg _ _ _ _ _ _ _ _)) (by rw [HR.out, hnm]; rfl) (put8_only (o0.trans (o1.trans o2)) (Nat.le_refl _) _ _ _ _ _ _ _ _) (put8_rd r2 hlt _ _ _ _ _ _ _ _) (stmEnc_mk (hA'.fresh (put8_keep (by show w.heap.size < _; omega) _ _ _ _ _ _ _ _) (by omega)) (StrsAt.nil _ _))

set_option maxRecDepth 8000 in
set_option maxHeartbeats 1600000 in
theorem plain_bad (r : Nat) (S : M.St) (w : World) (h : Rd w r S) (h1 : S.at M.kOut = false) (h2 : S.at M.kReturn = false) (f : M.Flt) (hx : M.name S = .error f) :
    Calls Tryz.prog 80 #[.pointer (some ⟨r, 0, none⟩)] w (Ends r w (stmEnc w) (M.plain S)) := by
  have hlt := h.lt
  have ha := h.alloc zero8
  have o0 : Only r w (w.alloc zero8) := (Only.refl r w).alloc _
  go_enter Tryz.func80, Tryz.ntmps80
  go_wp2_with fail
  refine (passIf_no r S M.kOut _ ha h1).mono ?_
  rintro e w' ⟨rfl, rfl⟩
  go_wp2_with fail
  refine (passIf_no r S M.kReturn _ ha h2).mono ?_
  rintro e w' ⟨rfl, rfl⟩
  go_wp2_with fail
  refine (name_any r S _ ha).mono ?_
  rintro e w1 ⟨o1, hok, herr⟩
  obtain rfl := herr f hx
  exact ⟨rfl, Ends.err (by simp [M.plain, h1, h2, hx, M.bnd]) (o0.trans o1)⟩

set_option maxRecDepth 8000 in
set_option maxHeartbeats 1600000 in
theorem plain_set (r : Nat) (S : M.St) (w : World) (h : Rd w r S) (h1 : S.at M.kOut = false) (h2 : S.at M.kReturn = false) (S1 : M.St) (x : ByteArray) (hx : M.name S = .ok (S1, x)) (hd : S1.at (M.ch 46) = true) :
    Calls Tryz.prog 80 #[.pointer (some ⟨r, 0, none⟩)] w (Ends r w (stmEnc w) (M.plain S)) := by
  have hlt := h.lt
  have ha := h.alloc zero8
  have o0 : Only r w (w.alloc zero8) := (Only.refl r w).alloc _
  have HR : Hid (M.plain S = M.bnd (M.name S1.adv) fun S2 p => M.bnd (M.take S2 (M.ch 61)) fun S3 _ => M.bnd (M.oneOperand S3) fun S4 a => .ok (S4, M.one 3 x M.em p a [] .nil .nil)) := by unfold Hid; simp [M.plain, h1, h2, hx, M.bnd, hd]
  go_enter Tryz.func80, Tryz.ntmps80
  go_wp2_with fail
  refine (passIf_no r S M.kOut _ ha h1).mono ?_
  rintro e w' ⟨rfl, rfl⟩
  go_wp2_with fail
  refine (passIf_no r S M.kReturn _ ha h2).mono ?_
  rintro e w' ⟨rfl, rfl⟩
  go_wp2_with fail
  refine (name_any r S _ ha).mono ?_
  rintro e w1 ⟨o1, hok, herr⟩
  obtain ⟨v1, rfl, r1, hv1⟩ := hok S1 x hx
  obtain rfl : v1 = .string x := hv1
  have hz1 := o1.size
  rw [World.size_alloc] at hz1
  clear hok herr
  go_wp2_with fail
  refine (passIf_yes r S1 (M.ch 46) _ r1 hd (by decide)).mono ?_
  rintro e w2 ⟨rfl, r2, o2⟩
  go_wp2_with fail
  refine (name_any r S1.adv _ r2).mono ?_
  rintro e w3 ⟨o3, hok, herr⟩
  have o13 := o1.trans (o2.trans o3)
  cases hnm : M.name S1.adv with
  | error f =>
    obtain rfl := herr f hnm
    exact ⟨rfl, Ends.err (by rw [HR.out, hnm]; rfl) (o0.trans o13)⟩
  | ok p =>
    obtain ⟨S2, pn⟩ := p
    obtain ⟨v3, rfl, r3, hv3⟩ := hok S2 pn hnm
    obtain rfl : v3 = .string pn := hv3
    have HR2 : Hid (M.plain S = M.bnd (M.take S2 (M.ch 61)) fun S3 _ => M.bnd (M.oneOperand S3) fun S4 a => .ok (S4, M.one 3 x M.em pn a [] .nil .nil)) := by unfold Hid; rw [HR.out, hnm]; rfl
    have ra := r3.alloc (.cells #[.int .i64 3, .string x, .string ⟨#[]⟩, .string pn, .slice none 0 0, .slice none 0 0, .slice none 0 0, .slice none 0 0] 59)
    have hz3 := o13.size
    rw [World.size_alloc] at hz3
    clear hok herr HR
    go_wp2_with fail
    refine (take_any r S2 (M.ch 61) _ ra (by decide)).mono ?_
    rintro e w4 ⟨o4, hok, herr⟩
    have o34 : Only r w3 w4 := ((Only.refl r w3).alloc _).trans o4
    cases htk : M.take S2 (M.ch 61) with
    | error f =>
      obtain rfl := herr f htk
      exact ⟨rfl, Ends.err (by rw [HR2.out, htk]; rfl) (o0.trans (o13.trans o34))⟩
    | ok p =>
      obtain ⟨S3, u⟩ := p
      obtain ⟨v4, rfl, r4, hv4⟩ := hok S3 u htk
      obtain rfl : v4 = .tuple #[] := hv4
      have HR3 : Hid (M.plain S = M.bnd (M.oneOperand S3) fun S4 a => .ok (S4, M.one 3 x M.em pn a [] .nil .nil)) := by unfold Hid; rw [HR2.out, htk]; rfl
      clear hok herr HR2
      have hz4 := o4.size
      rw [World.size_alloc] at hz4
      go_wp2_with fail
      refine (oneOperand_any r S3 _ r4).mono ?_
      rintro e w5 ⟨o5, hok, herr⟩
      have o15 := o13.trans (o34.trans o5)
      cases hop : M.oneOperand S3 with
      | error f =>
        obtain rfl := herr f hop
        exact ⟨rfl, Ends.err (by rw [HR3.out, hop]; rfl) (o0.trans o15)⟩
      | ok p =>
        obtain ⟨S4, l⟩ := p
        obtain ⟨v5, rfl, r5, hA⟩ := hok S4 l hop
        have hA' : OpsAt w5 (Old w4) v5 l := hA
        obtain ⟨aa, ca, rfl⟩ := SlAt.form hA'
        have hL := kept_new (o4.trans o5) r3.lt
        have hg := kept8 o15 hlt
        obtain ⟨k0, k1, k2, k3, k4, k5, k6, k7, kf, kz⟩ := cells8 hL
        obtain ⟨q0, q1, q2, q3, q4, q5, q6, q7, qf, qz⟩ := cells8 hg
        have hgL : ¬ w.heap.size = w3.heap.size := by omega
        have hLg : ¬ w3.heap.size = w.heap.size := by omega
        clear hok herr
        go_wp2_with fail
        have hg' : (w5.setCell ⟨w3.heap.size, 4, none⟩ (.slice aa l.length ca)).heap[w.heap.size]? = _ := (Below.heap_setCell _ _ _ _ hgL).trans hg
        have hO : Only r w (w5.setCell ⟨w3.heap.size, 4, none⟩ (.slice aa l.length ca)) := (o0.trans o15).setCell (.inr (by show w.heap.size ≤ w3.heap.size; omega)) _
        exact ret8 (enc := stmEnc w) (res := M.plain S) (S' := S4) (res_plain (by rfl) (put8_at hg' _ _ _ _ _ _ _ _)) (by rw [HR3.out, hop]; rfl) (put8_only hO (Nat.le_refl _) _ _ _ _ _ _ _ _) (put8_rd (r5.setCell (by show r < w3.heap.size; exact r3.lt) _) hlt _ _ _ _ _ _ _ _)
          (stmEnc_mk (hA'.fresh ((keep_set (by show w3.heap.size < _; omega) _).trans (put8_keep (by show w.heap.size < _; omega) _ _ _ _ _ _ _ _)) (by omega)) (StrsAt.nil _ _))

set_option maxRecDepth 8000 in
set_option maxHeartbeats 1600000 in
theorem plain_val (r : Nat) (S : M.St) (w : World) (h : Rd w r S) (h1 : S.at M.kOut = false) (h2 : S.at M.kReturn = false) (S1 : M.St) (x : ByteArray) (hx : M.name S = .ok (S1, x)) (hd : S1.at (M.ch 46) = false) :
    Calls Tryz.prog 80 #[.pointer (some ⟨r, 0, none⟩)] w (Ends r w (stmEnc w) (M.plain S)) := by
  have hlt := h.lt
  have ha := h.alloc zero8
  have o0 : Only r w (w.alloc zero8) := (Only.refl r w).alloc _
  have HR : Hid (M.plain S = M.bnd (M.take S1 (M.ch 61)) fun S2 _ => M.bnd (M.value S2) fun S3 v => .ok (S3, M.one v.op x v.y v.p v.a v.pr .nil .nil)) := by unfold Hid; simp [M.plain, h1, h2, hx, M.bnd, hd]
  go_enter Tryz.func80, Tryz.ntmps80
  go_wp2_with fail
  refine (passIf_no r S M.kOut _ ha h1).mono ?_
  rintro e w' ⟨rfl, rfl⟩
  go_wp2_with fail
  refine (passIf_no r S M.kReturn _ ha h2).mono ?_
  rintro e w' ⟨rfl, rfl⟩
  go_wp2_with fail
  refine (name_any r S _ ha).mono ?_
  rintro e w1 ⟨o1, hok, herr⟩
  obtain ⟨v1, rfl, r1, hv1⟩ := hok S1 x hx
  obtain rfl : v1 = .string x := hv1
  have hz1 := o1.size
  rw [World.size_alloc] at hz1
  clear hok herr
  go_wp2_with fail
  refine (passIf_no r S1 (M.ch 46) _ r1 hd).mono ?_
  rintro e w' ⟨rfl, rfl⟩
  go_wp2_with fail
  refine (take_any r S1 (M.ch 61) _ r1 (by decide)).mono ?_
  rintro e w2 ⟨o2, hok, herr⟩
  have o12 := o1.trans o2
  cases htk : M.take S1 (M.ch 61) with
  | error f =>
    obtain rfl := herr f htk
    exact ⟨rfl, Ends.err (by rw [HR.out, htk]; rfl) (o0.trans o12)⟩
  | ok p =>
    obtain ⟨S2, u⟩ := p
    obtain ⟨v2, rfl, r2, hv2⟩ := hok S2 u htk
    obtain rfl : v2 = .tuple #[] := hv2
    have HR2 : Hid (M.plain S = M.bnd (M.value S2) fun S3 v => .ok (S3, M.one v.op x v.y v.p v.a v.pr .nil .nil)) := by unfold Hid; rw [HR.out, htk]; rfl
    clear hok herr HR
    have hz2 := o12.size
    rw [World.size_alloc] at hz2
    go_wp2_with fail
    refine (value_any r S2 _ r2).mono ?_
    rintro e w3 ⟨o3, hok, herr⟩
    have o13 := o12.trans o3
    cases hvl : M.value S2 with
    | error f =>
      obtain rfl := herr f hvl
      exact ⟨rfl, Ends.err (by rw [HR2.out, hvl]; rfl) (o0.trans o13)⟩
    | ok p =>
      obtain ⟨S3, y⟩ := p
      obtain ⟨v3, rfl, r3, va, vp, rfl, hA, hP⟩ := hok S3 y hvl
      obtain ⟨aa, ca, rfl⟩ := SlAt.form hA
      obtain ⟨ap, cp, rfl⟩ := SlAt.form hP
      have hg := kept8 o13 hlt
      obtain ⟨q0, q1, q2, q3, q4, q5, q6, q7, qf, qz⟩ := cells8 hg
      have hgL : ¬ w.heap.size = w3.heap.size := by have := o3.size; omega
      have hLg : ¬ w3.heap.size = w.heap.size := by have := o3.size; omega
      clear hok herr
      go_wp2_with fail
      have hk : ∀ o, Keep (Old w2) w3 ((put8 w3 w.heap.size (.int .i64 y.op) (.string x) (.string y.y) (.string y.p) (.slice aa y.a.length ca) (.slice ap y.pr.length cp) (.slice none 0 0) (.slice none 0 0)).alloc o) := fun o =>
        (put8_keep (by show w.heap.size < _; omega) _ _ _ _ _ _ _ _).trans (Below.keepX ((Below.refl _ _).alloc (Nat.le_refl _) o))
      exact ret8 (enc := stmEnc w) (res := M.plain S) (S' := S3) (res_plain (by rfl) ((Below.heap_alloc _ _ _ (by rw [put8_size]; omega)).trans (put8_at hg _ _ _ _ _ _ _ _))) (by rw [HR2.out, hvl]; rfl) ((put8_only (o0.trans o13) (Nat.le_refl _) _ _ _ _ _ _ _ _).alloc _) ((put8_rd r3 hlt _ _ _ _ _ _ _ _).alloc _)
        (stmEnc_mk (OpsAt.fresh hA (hk _) (by omega)) (StrsAt.fresh hP (hk _) (by omega)))

theorem plain_any (r : Nat) (S : M.St) (w : World) (h : Rd w r S) :
    Calls Tryz.prog 80 #[.pointer (some ⟨r, 0, none⟩)] w (Ends r w (stmEnc w) (M.plain S)) := by
  cases h1 : S.at M.kOut
  · cases h2 : S.at M.kReturn
    · cases hx : M.name S with
      | error f => exact plain_bad r S w h h1 h2 f hx
      | ok p =>
        obtain ⟨S1, x⟩ := p
        cases hd : S1.at (M.ch 46)
        · exact plain_val r S w h h1 h2 S1 x hx hd
        · exact plain_set r S w h h1 h2 S1 x hx hd
    · exact plain_ret r S w h h1 h2
  · exact plain_out r S w h h1
end Go.Proofs.YtkonkdhoakcmdaaGreatDoor
