/-
  The walk of a reader's statement, where block is known for fewer tokens. Conditions: what block does there.
-/
import Derived.Test.YtkonkdhoakcmdaaGreatDoorR12
set_option linter.unusedVariables false
namespace Go.Proofs.YtkonkdhoakcmdaaGreatDoor
open Go.RowKit

theorem kept8at {w w1 : World} {r k : Nat} (h : Only r (w.alloc zero8) w1) (hr : r < w.heap.size) (hk : w.heap.size = k) : w1.heap[k]? = some (.cells #[.int .i64 0, .string ⟨#[]⟩, .string ⟨#[]⟩, .string ⟨#[]⟩, .slice none 0 0, .slice none 0 0, .slice none 0 0, .slice none 0 0] 59 (0, 0)) := by
  subst hk; exact kept8 h hr

set_option maxRecDepth 8000 in
set_option maxHeartbeats 1600000 in
theorem statement_no (N : Nat) (hB : BlockC N) (r : Nat) (S : M.St) (w : World) (h : Rd w r S) (hN : S.rest.length ≤ N) (hs : S.atStmt = false) :
    Calls Tryz.prog 69 #[.pointer (some ⟨r, 0, none⟩)] w (Ends r w (stmEnc w) (M.stmt (M.blk N) S)) := by
  have hlt := h.lt
  have ha := h.alloc zero8
  have o0 : Only r w (w.alloc zero8) := (Only.refl r w).alloc _
  have hst := atStatement_any r S _ ha
  rw [hs] at hst
  go_enter Tryz.func69, Tryz.ntmps69
  go_wp2_with fail
  refine hst.mono ?_
  rintro e w' ⟨rfl, rfl⟩
  go_wp2_with fail
  refine (must_no r S _ ha).mono ?_
  rintro e w' ⟨rfl, rfl⟩
  exact ⟨rfl, Ends.err (by simp [M.stmt, hs, M.fail]) o0⟩

set_option maxRecDepth 8000 in
set_option maxHeartbeats 1600000 in
theorem statement_many (N : Nat) (hB : BlockC N) (r : Nat) (S : M.St) (w : World) (h : Rd w r S) (hN : S.rest.length ≤ N) (hs : S.atStmt = true) (hn : S.n = 2000) :
    Calls Tryz.prog 69 #[.pointer (some ⟨r, 0, none⟩)] w (Ends r w (stmEnc w) (M.stmt (M.blk N) S)) := by
  have hlt := h.lt
  have ha := h.alloc zero8
  have o0 : Only r w (w.alloc zero8) := (Only.refl r w).alloc _
  have hst := atStatement_any r S _ ha
  rw [hs] at hst
  go_enter Tryz.func69, Tryz.ntmps69
  go_wp2_with fail
  refine hst.mono ?_
  rintro e w' ⟨rfl, rfl⟩
  go_wp2_with fail
  refine (must_yes r _).mono ?_
  rintro e w' ⟨rfl, rfl⟩
  obtain ⟨⟨v, hh, htt⟩, _, _⟩ := id h
  obtain ⟨hv, hfin, hk, ht, hp, hn5, hd, hfree, hlt'⟩ := cells7 hh
  rw [hn] at hn5
  go_wp2_with fail
  refine (fail_any r S _ _ ha).mono ?_
  rintro e w' ⟨rfl, rfl⟩
  exact ⟨rfl, Ends.err (by simp [M.stmt, hs, hn, M.fail]) o0⟩

set_option maxRecDepth 8000 in
set_option maxHeartbeats 1600000 in
theorem statement_if (N : Nat) (hB : BlockC N) (r : Nat) (S : M.St) (w : World) (h : Rd w r S) (hN : S.rest.length ≤ N) (hs : S.atStmt = true) (hn : ¬ S.n = 2000) (h1 : S.at M.kIf = true) :
    Calls Tryz.prog 69 #[.pointer (some ⟨r, 0, none⟩)] w (Ends r w (stmEnc w) (M.stmt (M.blk N) S)) := by
  have hlt := h.lt
  have ha := h.alloc zero8
  have o0 : Only r w (w.alloc zero8) := (Only.refl r w).alloc _
  have hst := atStatement_any r S _ ha
  rw [hs] at hst
  have hl20 := h.lim.1
  have hnb : ((S.n : Int) == 2000) = false := by simp; omega
  have rm := (h.more hn).alloc zero8
  have om : Only r w (w.setCell ⟨r, 5, none⟩ (.int .i64 ((S.n : Int) + 1))) := (Only.refl r w).setCell (.inl rfl) _
  have om0 : Only r w ((w.setCell ⟨r, 5, none⟩ (.int .i64 ((S.n : Int) + 1))).alloc zero8) := om.alloc _
  have hzm : (w.setCell ⟨r, 5, none⟩ (.int .i64 ((S.n : Int) + 1))).heap.size = w.heap.size := by simp [World.setCell]
  have HR : Hid (M.stmt (M.blk N) S = M.branch (M.blk N) S.more.adv) := by unfold Hid; simp [M.stmt, hs, hn, h1]
  have hsh : S.more.adv.rest.length < S.rest.length := M.adv_short (S := S.more) (M.atStmt_ne hs)
  go_enter Tryz.func69, Tryz.ntmps69
  go_wp2_with fail
  refine hst.mono ?_
  rintro e w' ⟨rfl, rfl⟩
  go_wp2_with fail
  refine (must_yes r _).mono ?_
  rintro e w' ⟨rfl, rfl⟩
  obtain ⟨⟨v, hh, htt⟩, _, _⟩ := id h
  obtain ⟨hv, hfin, hk, ht, hp, hn5, hd, hfree, hlt'⟩ := cells7 hh
  generalize hwm : (w.setCell ⟨r, 5, none⟩ (.int .i64 ((S.n : Int) + 1))) = wm at rm om om0 hzm
  have HWM := hid hwm
  have HZM := hid hzm
  clear hwm hzm
  go_wp2_with fail
  rw [HWM.out]
  refine (passIf_yes r S.more M.kIf _ rm h1 (by decide)).mono ?_
  rintro e w1 ⟨rfl, r1, o1⟩
  go_wp2_with fail
  refine (branch_any N hB r S.more.adv _ r1 (by omega)).mono ?_
  rintro e w2 ⟨o2, hok, herr⟩
  cases hbr : M.branch (M.blk N) S.more.adv with
  | error f =>
    obtain rfl := herr f hbr
    exact ⟨rfl, Ends.err (by rw [HR.out, hbr]) (om0.trans (o1.trans o2))⟩
  | ok p =>
    obtain ⟨S2, t⟩ := p
    obtain ⟨v2, rfl, r2, op, x, y, pn, l, pr, th, el, va, vp, vt, ve, rfl, rfl, hA, hP, hT, hE⟩ := hok S2 t hbr
    obtain ⟨aa, ca, rfl⟩ := SlAt.form hA
    obtain ⟨ap, cp, rfl⟩ := SlAt.form hP
    obtain ⟨a3, c3, rfl⟩ := StmAt.form hT
    obtain ⟨a4, c4, rfl⟩ := StmAt.form hE
    have hz1 := o1.size
    rw [World.size_alloc, HZM.out] at hz1
    have hg := kept8at (o1.trans o2) (by have := HZM.out; omega) HZM.out
    obtain ⟨q0, q1, q2, q3, q4, q5, q6, q7, qf, qz⟩ := cells8 hg
    clear hok herr
    go_wp2_with fail
    have kp : Keep (Old w1) w2 (put8 w2 w.heap.size (.int .i64 op) (.string x) (.string y) (.string pn) (.slice aa l.length ca) (.slice ap pr.length cp) (.slice a3 th.len c3) (.slice a4 el.len c4)) := put8_keep (by show w.heap.size < _; omega) _ _ _ _ _ _ _ _
    exact ret8 (enc := stmEnc w) (res := M.stmt (M.blk N) S) (S' := S2) (res_statement (by rfl) (put8_at hg _ _ _ _ _ _ _ _)) (by rw [HR.out, hbr]) (put8_only (om0.trans (o1.trans o2)) (Nat.le_refl _) _ _ _ _ _ _ _ _) (put8_rd r2 hlt _ _ _ _ _ _ _ _) ⟨_, _, _, _, _, _, _, _, _, _, _, _, rfl, rfl, OpsAt.fresh hA kp (by omega), StrsAt.fresh hP kp (by omega), StmAt.fresh hT kp (by omega), StmAt.fresh hE kp (by omega)⟩

set_option maxRecDepth 8000 in
set_option maxHeartbeats 1600000 in
theorem statement_while (N : Nat) (hB : BlockC N) (r : Nat) (S : M.St) (w : World) (h : Rd w r S) (hN : S.rest.length ≤ N) (hs : S.atStmt = true) (hn : ¬ S.n = 2000) (h1 : S.at M.kIf = false) (h2 : S.at M.kWhile = true) :
    Calls Tryz.prog 69 #[.pointer (some ⟨r, 0, none⟩)] w (Ends r w (stmEnc w) (M.stmt (M.blk N) S)) := by
  have hlt := h.lt
  have ha := h.alloc zero8
  have o0 : Only r w (w.alloc zero8) := (Only.refl r w).alloc _
  have hst := atStatement_any r S _ ha
  rw [hs] at hst
  have hl20 := h.lim.1
  have hnb : ((S.n : Int) == 2000) = false := by simp; omega
  have rm := (h.more hn).alloc zero8
  have om : Only r w (w.setCell ⟨r, 5, none⟩ (.int .i64 ((S.n : Int) + 1))) := (Only.refl r w).setCell (.inl rfl) _
  have om0 : Only r w ((w.setCell ⟨r, 5, none⟩ (.int .i64 ((S.n : Int) + 1))).alloc zero8) := om.alloc _
  have hzm : (w.setCell ⟨r, 5, none⟩ (.int .i64 ((S.n : Int) + 1))).heap.size = w.heap.size := by simp [World.setCell]
  have HR : Hid (M.stmt (M.blk N) S = M.loopS (M.blk N) S.more.adv) := by unfold Hid; simp [M.stmt, hs, hn, h1, h2]
  have hsh : S.more.adv.rest.length < S.rest.length := M.adv_short (S := S.more) (M.atStmt_ne hs)
  go_enter Tryz.func69, Tryz.ntmps69
  go_wp2_with fail
  refine hst.mono ?_
  rintro e w' ⟨rfl, rfl⟩
  go_wp2_with fail
  refine (must_yes r _).mono ?_
  rintro e w' ⟨rfl, rfl⟩
  obtain ⟨⟨v, hh, htt⟩, _, _⟩ := id h
  obtain ⟨hv, hfin, hk, ht, hp, hn5, hd, hfree, hlt'⟩ := cells7 hh
  generalize hwm : (w.setCell ⟨r, 5, none⟩ (.int .i64 ((S.n : Int) + 1))) = wm at rm om om0 hzm
  have HWM := hid hwm
  have HZM := hid hzm
  clear hwm hzm
  go_wp2_with fail
  rw [HWM.out]
  refine (passIf_no r S.more M.kIf _ rm h1).mono ?_
  rintro e w' ⟨rfl, rfl⟩
  go_wp2_with fail
  refine (passIf_yes r S.more M.kWhile _ rm h2 (by decide)).mono ?_
  rintro e w1 ⟨rfl, r1, o1⟩
  have hz1 := o1.size
  rw [World.size_alloc, HZM.out] at hz1
  go_wp2_with fail
  refine (oneOperand_any r S.more.adv _ r1).mono ?_
  rintro e w2 ⟨o2, hok, herr⟩
  cases hop : M.oneOperand S.more.adv with
  | error f =>
    obtain rfl := herr f hop
    exact ⟨rfl, Ends.err (by rw [HR.out, M.loopS, hop]; rfl) (om0.trans (o1.trans o2))⟩
  | ok p =>
    obtain ⟨S2, l⟩ := p
    obtain ⟨v2, rfl, r2, hA⟩ := hok S2 l hop
    have hA' : OpsAt w2 (Old w1) v2 l := hA
    obtain ⟨aa, ca, rfl⟩ := SlAt.form hA'
    have hsh2 := (M.oneOperand_le hop).rest
    have ra := r2.alloc (.cells #[.int .i64 10, .string ⟨#[]⟩, .string ⟨#[]⟩, .string ⟨#[]⟩, .slice aa l.length ca, .slice none 0 0, .slice none 0 0, .slice none 0 0] 59)
    have hz2 := o2.size
    clear hok herr
    go_wp2_with fail
    refine (hB r S2 _ ra (by omega)).mono ?_
    rintro e w3 ⟨o3, hok, herr⟩
    have o23 : Only r w2 w3 := ((Only.refl r w2).alloc _).trans o3
    cases hbl : M.blk N S2 with
    | error f =>
      obtain rfl := herr f hbl
      exact ⟨rfl, Ends.err (by rw [HR.out, M.loopS, hop]; simp only [M.bnd, hbl]) (om0.trans (o1.trans (o2.trans o23)))⟩
    | ok p =>
      obtain ⟨S3, th⟩ := p
      obtain ⟨v3, rfl, r3, hT⟩ := hok S3 th hbl
      have hT' : StmAt w3 (Old (w2.alloc (.cells #[.int .i64 10, .string ⟨#[]⟩, .string ⟨#[]⟩, .string ⟨#[]⟩, .slice aa l.length ca, .slice none 0 0, .slice none 0 0, .slice none 0 0] 59))) v3 th := hT
      obtain ⟨a3, c3, rfl⟩ := hT'.form
      have hL := kept_new o3 r2.lt
      have hg := kept8at (o1.trans (o2.trans o23)) (by have := HZM.out; omega) HZM.out
      obtain ⟨k0, k1, k2, k3, k4, k5, k6, k7, kf, kz⟩ := cells8 hL
      obtain ⟨q0, q1, q2, q3, q4, q5, q6, q7, qf, qz⟩ := cells8 hg
      have hgL : ¬ w.heap.size = w2.heap.size := by omega
      have hLg : ¬ w2.heap.size = w.heap.size := by omega
      have hLr : r < w2.heap.size := r2.lt
      clear hok herr
      go_wp2_with fail
      have hg' : (w3.setCell ⟨w2.heap.size, 6, none⟩ (.slice a3 th.len c3)).heap[w.heap.size]? = _ := (Below.heap_setCell _ _ _ _ hgL).trans hg
      have hO : Only r w (w3.setCell ⟨w2.heap.size, 6, none⟩ (.slice a3 th.len c3)) := (om0.trans (o1.trans (o2.trans o23))).setCell (.inr (by show w.heap.size ≤ w2.heap.size; omega)) _
      refine ret8 (enc := stmEnc w) (res := M.stmt (M.blk N) S) (S' := S3) (a := M.one 10 M.em M.em M.em l [] th .nil) (res_statement (by rfl) (put8_at hg' _ _ _ _ _ _ _ _)) (by rw [HR.out, M.loopS, hop]; simp only [M.bnd, hbl]) (put8_only hO (Nat.le_refl _) _ _ _ _ _ _ _ _) (put8_rd (r3.setCell hLr _) hlt _ _ _ _ _ _ _ _) ⟨10, M.em, M.em, M.em, l, [], th, .nil, _, _, _, _, rfl, rfl, ?_, StrsAt.nil _ _, hT'.fresh ((keep_set (by show w2.heap.size < _; simp) _).trans (put8_keep (by show w.heap.size < _; rw [World.size_alloc]; omega) _ _ _ _ _ _ _ _)) (by rw [World.size_alloc]; omega), StmAt.nil _ _⟩
      have h1' : OpsAt w2 (fun b => b < w.heap.size + 1 ∨ b = r ∨ b = w2.heap.size) (.slice aa l.length ca) l := SlAt.weak hA' fun b hb hx hy => by
        have hx' : ¬ b < w1.heap.size := hx
        rcases hy with hy | hy | hy <;> omega
      have h2' := SlAt.keep (SlAt.keep (SlAt.keep h1' (o23.keep (.inr (.inl rfl)))) (keep_set (p := ⟨w2.heap.size, 6, none⟩) (.inr (.inr rfl)) (.slice a3 th.len c3))) (put8_keep (g := w.heap.size) (.inl (by omega)) (.int .i64 10) (.string ⟨#[]⟩) (.string ⟨#[]⟩) (.string ⟨#[]⟩) (.slice aa l.length ca) (.slice none 0 0) (.slice a3 th.len c3) (.slice none 0 0))
      exact h2'.weak fun b _ hx hy => hx (.inl (by have : b < w.heap.size := hy; omega))

set_option maxRecDepth 8000 in
set_option maxHeartbeats 1600000 in
theorem statement_plain (N : Nat) (hB : BlockC N) (r : Nat) (S : M.St) (w : World) (h : Rd w r S) (hN : S.rest.length ≤ N) (hs : S.atStmt = true) (hn : ¬ S.n = 2000) (h1 : S.at M.kIf = false) (h2 : S.at M.kWhile = false) :
    Calls Tryz.prog 69 #[.pointer (some ⟨r, 0, none⟩)] w (Ends r w (stmEnc w) (M.stmt (M.blk N) S)) := by
  have hlt := h.lt
  have ha := h.alloc zero8
  have o0 : Only r w (w.alloc zero8) := (Only.refl r w).alloc _
  have hst := atStatement_any r S _ ha
  rw [hs] at hst
  have hl20 := h.lim.1
  have hnb : ((S.n : Int) == 2000) = false := by simp; omega
  have rm := (h.more hn).alloc zero8
  have om : Only r w (w.setCell ⟨r, 5, none⟩ (.int .i64 ((S.n : Int) + 1))) := (Only.refl r w).setCell (.inl rfl) _
  have om0 : Only r w ((w.setCell ⟨r, 5, none⟩ (.int .i64 ((S.n : Int) + 1))).alloc zero8) := om.alloc _
  have hzm : (w.setCell ⟨r, 5, none⟩ (.int .i64 ((S.n : Int) + 1))).heap.size = w.heap.size := by simp [World.setCell]
  have HR : Hid (M.stmt (M.blk N) S = M.bnd (M.plain S.more) fun S1 t => M.bnd (M.take S1 (M.ch 59)) fun S2 _ => .ok (S2, t)) := by unfold Hid; simp [M.stmt, hs, hn, h1, h2]
  go_enter Tryz.func69, Tryz.ntmps69
  go_wp2_with fail
  refine hst.mono ?_
  rintro e w' ⟨rfl, rfl⟩
  go_wp2_with fail
  refine (must_yes r _).mono ?_
  rintro e w' ⟨rfl, rfl⟩
  obtain ⟨⟨v, hh, htt⟩, _, _⟩ := id h
  obtain ⟨hv, hfin, hk, ht, hp, hn5, hd, hfree, hlt'⟩ := cells7 hh
  generalize hwm : (w.setCell ⟨r, 5, none⟩ (.int .i64 ((S.n : Int) + 1))) = wm at rm om om0 hzm
  have HWM := hid hwm
  have HZM := hid hzm
  clear hwm hzm
  go_wp2_with fail
  rw [HWM.out]
  refine (passIf_no r S.more M.kIf _ rm h1).mono ?_
  rintro e w' ⟨rfl, rfl⟩
  go_wp2_with fail
  refine (passIf_no r S.more M.kWhile _ rm h2).mono ?_
  rintro e w' ⟨rfl, rfl⟩
  generalize hwz : wm.alloc zero8 = wz at rm om0 ⊢
  have HWZ := hid hwz
  have hzz : wz.heap.size = w.heap.size + 1 := by rw [← hwz, World.size_alloc, HZM.out]
  have HZZ := hid hzz
  clear hwz hzz
  go_wp2_with fail
  refine (plain_any r S.more _ rm).mono ?_
  rintro e w2 ⟨o2, hok, herr⟩
  cases hbr : M.plain S.more with
  | error f =>
    obtain rfl := herr f hbr
    exact ⟨rfl, Ends.err (by rw [HR.out, hbr]; rfl) (om0.trans o2)⟩
  | ok p =>
    obtain ⟨S2, t⟩ := p
    obtain ⟨v2, rfl, r2, op, x, y, pn, l, pr, th, el, va, vp, vt, ve, rfl, rfl, hA, hP, hT, hE⟩ := hok S2 t hbr
    obtain ⟨aa, ca, rfl⟩ := SlAt.form hA
    obtain ⟨ap, cp, rfl⟩ := SlAt.form hP
    obtain ⟨a3, c3, rfl⟩ := StmAt.form hT
    obtain ⟨a4, c4, rfl⟩ := StmAt.form hE
    have hz2 := o2.size
    rw [HZZ.out] at hz2
    have ra := r2.alloc (.cells #[.int .i64 op, .string x, .string y, .string pn, .slice aa l.length ca, .slice ap pr.length cp, .slice a3 th.len c3, .slice a4 el.len c4] 59)
    clear hok herr
    go_wp2_with fail
    refine (take_any r S2 (M.ch 59) _ ra (by decide)).mono ?_
    rintro e w3 ⟨o3, hok, herr⟩
    have o23 : Only r w2 w3 := ((Only.refl r w2).alloc _).trans o3
    cases htk : M.take S2 (M.ch 59) with
    | error f =>
      obtain rfl := herr f htk
      exact ⟨rfl, Ends.err (by rw [HR.out, hbr]; simp only [M.bnd, htk]) (om0.trans (o2.trans o23))⟩
    | ok p =>
      obtain ⟨S3, u⟩ := p
      obtain ⟨v3, rfl, r3, hv3⟩ := hok S3 u htk
      obtain rfl : v3 = .tuple #[] := hv3
      have hL := kept_new o3 r2.lt
      have hoz : Only r (wm.alloc zero8) w3 := by rw [HWZ.out]; exact o2.trans o23
      have hg := kept8at hoz (by have := HZM.out; omega) HZM.out
      obtain ⟨k0, k1, k2, k3, k4, k5, k6, k7, kf, kz⟩ := cells8 hL
      obtain ⟨q0, q1, q2, q3, q4, q5, q6, q7, qf, qz⟩ := cells8 hg
      clear hok herr
      go_wp2_with fail
      have hzz := HZZ.out
      have kp : Keep (Old wz) w2 (put8 w3 w.heap.size (.int .i64 op) (.string x) (.string y) (.string pn) (.slice aa l.length ca) (.slice ap pr.length cp) (.slice a3 th.len c3) (.slice a4 el.len c4)) := (o23.keep (by show r < _; omega)).trans (put8_keep (by show w.heap.size < _; omega) _ _ _ _ _ _ _ _)
      exact ret8 (enc := stmEnc w) (res := M.stmt (M.blk N) S) (S' := S3) (res_statement (by rfl) (put8_at hg _ _ _ _ _ _ _ _)) (by rw [HR.out, hbr]; simp only [M.bnd, htk]) (put8_only (om0.trans (o2.trans o23)) (Nat.le_refl _) _ _ _ _ _ _ _ _) (put8_rd r3 hlt _ _ _ _ _ _ _ _) ⟨_, _, _, _, _, _, _, _, _, _, _, _, rfl, rfl, OpsAt.fresh hA kp (by omega), StrsAt.fresh hP kp (by omega), StmAt.fresh hT kp (by omega), StmAt.fresh hE kp (by omega)⟩

theorem statement_any (N : Nat) (hB : BlockC N) : StmtC N := by
  intro r S w h hN
  cases hs : S.atStmt
  · exact statement_no N hB r S w h hN hs
  · by_cases hn : S.n = 2000
    · exact statement_many N hB r S w h hN hs hn
    · cases h1 : S.at M.kIf
      · cases h2 : S.at M.kWhile
        · exact statement_plain N hB r S w h hN hs hn h1 h2
        · exact statement_while N hB r S w h hN hs hn h1 h2
      · exact statement_if N hB r S w h hN hs hn h1
end Go.Proofs.YtkonkdhoakcmdaaGreatDoor
