/-
  The walks of the document's reader's isName and name (proteanref02). Conditions: the state's.
-/
import Derived.Test.YtkonkdhoakcmdaaGreatDoorT3
set_option linter.unusedVariables false
set_option linter.unusedSimpArgs false
namespace Go.Proofs.YtkonkdhoakcmdaaGreatDoor
open Go.RowKit

theorem now_at (ts : List M.Tok) (fin : Int) (i n d : Nat) (h : i < ts.length) : (M.St.mk (ts.drop i) fin n d).now = if M.may1 ts[i] = true then ts[i] else ⟨-1, M.em, ts[i].p⟩ := by
  unfold M.St.now
  rw [List.drop_eq_getElem_cons h]; rfl
theorem isName_eq (ts : List M.Tok) (fin : Int) (i n d : Nat) (h : i < ts.length) :
    (M.St.mk (ts.drop i) fin n d).isName = ((ts[i].k == 0) && (M.may1 ⟨0, ts[i].t, 0⟩ && !M.kw ts[i].t)) := by
  unfold M.St.isName
  rw [now_at _ _ _ _ _ h]
  by_cases hk : ts[i].k = 0
  · have e : M.may1 ts[i] = M.may1 ⟨0, ts[i].t, 0⟩ := by unfold M.may1; rw [if_pos hk]; rfl
    by_cases hm : M.may1 ts[i] = true
    · rw [if_pos hm, ← e, hm, hk]; simp
    · have hm' : M.may1 ts[i] = false := by simpa using hm
      rw [if_neg hm, ← e, hm']; simp
  · have hb : (ts[i].k == 0) = false := by simpa using hk
    rw [hb]
    by_cases hm : M.may1 ts[i] = true
    · rw [if_pos hm]; simp [hk]
    · rw [if_neg hm]; simp
theorem isName_end (ts : List M.Tok) (fin : Int) (i n d : Nat) (h : ¬ i < ts.length) : (M.St.mk (ts.drop i) fin n d).isName = false := by
  unfold M.St.isName M.St.now
  rw [List.drop_eq_nil_of_le (by omega)]
  simp [M.now1]

set_option maxRecDepth 4000 in
set_option maxHeartbeats 1600000 in
theorem risName_any (a : Option Addr) (cap : Nat) (ts : List M.Tok) (fin : Int) (d : Nat) (r : RSt) (i n : Nat) (c y : Int) (w : World) (h : RS ts fin d r i n c y) (hT : TokAt w (.slice a ts.length cap) ts) :
    Calls Tryz.prog 31 #[.agg #[.slice a ts.length cap, .int .i64 i, .int .i64 fin, .int .i64 n, .int .i64 c, .int .i64 y]] w fun e w' => e = .returned (.bool (isNameR r)) ∧ Below w.heap.size w w' := by
  have hlen := hT.1
  have hi := h.lt
  cases hr : r with
  | error f =>
    subst hr
    obtain ⟨rfl, rfl, hc⟩ := h.bad f rfl
    go_enter Tryz.func31, Tryz.ntmps31
    go_wp2_with fail
    refine (rok_any _ _ _ _ _ _ _ _ _ _ _ _ h).mono ?_
    rintro e w1 ⟨rfl, hb⟩
    obtain ⟨hP, hz, hb1⟩ := one_new hb
    obtain ⟨x0, x1, x2, x3, x4, x5, xf⟩ := cells6 hP
    simp only [okR]
    go_wp2_with fail
    go_ret
    exact ⟨rfl, hb1⟩
  | ok S =>
    subst hr
    obtain ⟨rfl, rfl, rfl⟩ := h.good S rfl
    by_cases hlt : i < ts.length
    · have HA := hid (isName_eq ts fin i n d hlt)
      obtain ⟨u1, u2, av, cv, eq, u3⟩ := hT
      simp only [Value.slice.injEq] at eq
      obtain ⟨rfl, _, rfl⟩ := eq
      rcases u3 with u3 | ⟨b, o, rfl, hbl, hcell⟩
      · rw [u3] at hlt; simp at hlt
      obtain ⟨p1, p2, p3⟩ := hcell i hlt
      have hsz := u2 _ (List.getElem_mem hlt)
      have hii : (i : Int) < (ts.length : Int) := by omega
      clear hcell u2
      cases hk : (ts[i].k == 0)
      · have HF : Hid (isNameR (.ok ⟨ts.drop i, fin, n, d⟩) = false) := by unfold Hid; rw [isNameR, HA.out, hk]; rfl
        clear HA
        go_enter Tryz.func31, Tryz.ntmps31
        go_wp2_with fail
        refine (rok_any _ _ _ _ _ _ _ _ _ _ _ _ h).mono ?_
        rintro e w1 ⟨rfl, hb⟩
        obtain ⟨hP, hz, hb1⟩ := one_new hb
        obtain ⟨x0, x1, x2, x3, x4, x5, xf⟩ := cells6 hP
        have q1 := (hb1.cell (p := ⟨b, o + i * 3, none⟩) hbl).trans p1
        simp only [okR]
        go_wp2_with fail
        go_ret
        exact ⟨ret_bool HF.out.symm, hb1⟩
      · have HF : Hid (isNameR (.ok ⟨ts.drop i, fin, n, d⟩) = (M.may1 ⟨0, ts[i].t, 0⟩ && !M.kw ts[i].t)) := by unfold Hid; rw [isNameR, HA.out, hk]; rfl
        clear HA
        go_enter Tryz.func31, Tryz.ntmps31
        go_wp2_with fail
        refine (rok_any _ _ _ _ _ _ _ _ _ _ _ _ h).mono ?_
        rintro e w1 ⟨rfl, hb⟩
        obtain ⟨hP, hz, hb1⟩ := one_new hb
        obtain ⟨x0, x1, x2, x3, x4, x5, xf⟩ := cells6 hP
        have q1 := (hb1.cell (p := ⟨b, o + i * 3, none⟩) hbl).trans p1
        have q2 := (hb1.cell (p := ⟨b, o + i * 3 + 1, none⟩) hbl).trans p2
        simp only [okR]
        go_wp2_with fail
        refine (rName_any _ _ hsz).mono ?_
        rintro e w2 ⟨rfl, hb2⟩
        go_wp2_with fail
        go_ret
        exact ⟨ret_bool HF.out.symm, hb1.trans (hb2.mono hb1.size)⟩
    · have HF : Hid (isNameR (.ok ⟨ts.drop i, fin, n, d⟩) = false) := isName_end ts fin i n d hlt
      have hii : ¬ (i : Int) < (ts.length : Int) := by omega
      go_enter Tryz.func31, Tryz.ntmps31
      go_wp2_with fail
      refine (rok_any _ _ _ _ _ _ _ _ _ _ _ _ h).mono ?_
      rintro e w1 ⟨rfl, hb⟩
      obtain ⟨hP, hz, hb1⟩ := one_new hb
      obtain ⟨x0, x1, x2, x3, x4, x5, xf⟩ := cells6 hP
      simp only [okR]
      go_wp2_with fail
      go_ret
      exact ⟨ret_bool HF.out.symm, hb1⟩

/-- the reader's name -/
def nameR (r : RSt) : M.Res ByteArray := bindR r M.name
theorem nameR_no {r : RSt} (h : isNameR r = false) : stR (nameR r) = failR r 20 ∧ ∀ S a, ¬ nameR r = .ok (S, a) := by
  cases r with
  | error f => exact ⟨rfl, fun S a e => by cases e⟩
  | ok S =>
    have h' : ¬ S.isName = true := by simpa [isNameR] using h
    simp only [nameR, bindR, M.name, if_neg h']
    exact ⟨rfl, fun S a e => by cases e⟩
theorem nameR_yes {S : M.St} (h : isNameR (.ok S) = true) : nameR (.ok S) = .ok (S.adv, S.now.t) := by
  have h' : S.isName = true := h
  simp only [nameR, bindR, M.name, if_pos h']
theorem now_t_name (ts : List M.Tok) (fin : Int) (i n d : Nat) (h : i < ts.length) (hn : (M.St.mk (ts.drop i) fin n d).isName = true) : (M.St.mk (ts.drop i) fin n d).now.t = ts[i].t := by
  unfold M.St.isName at hn
  rw [now_at _ _ _ _ _ h] at hn ⊢
  by_cases hm : M.may1 ts[i] = true
  · rw [if_pos hm]
  · rw [if_neg hm] at hn; simp at hn

set_option maxRecDepth 4000 in
set_option maxHeartbeats 1600000 in
theorem rname_any (a : Option Addr) (cap : Nat) (ts : List M.Tok) (fin : Int) (d : Nat) (r : RSt) (i n : Nat) (c y : Int) (w : World) (h : RS ts fin d r i n c y) (hT : TokAt w (.slice a ts.length cap) ts) :
    Calls Tryz.prog 19 #[.agg #[.slice a ts.length cap, .int .i64 i, .int .i64 fin, .int .i64 n, .int .i64 c, .int .i64 y]] w fun e w' => Below w.heap.size w w' ∧ ∃ (i' : Nat) (c' y' : Int) (s : ByteArray), e = .returned (.tuple #[.agg #[.slice a ts.length cap, .int .i64 i', .int .i64 fin, .int .i64 n, .int .i64 c', .int .i64 y'], .string s]) ∧ RS ts fin d (stR (nameR r)) i' n c' y' ∧ ∀ S x, nameR r = .ok (S, x) → s = x := by
  have hlen := hT.1
  have hi := h.lt
  cases hr : isNameR r
  · have HN := hid (nameR_no hr)
    go_enter Tryz.func19, Tryz.ntmps19
    go_wp2_with fail
    refine (risName_any _ _ _ _ _ _ _ _ _ _ _ h (hT.keep (below_two _ _))).mono ?_
    rintro e w1 ⟨rfl, hb⟩
    obtain ⟨hP, hQ, hz, hb1⟩ := two_new hb
    obtain ⟨x0, x1, x2, x3, x4, x5, xf⟩ := cells6 hP
    rw [hr]
    go_wp2_with fail
    refine (rfail_any _ _ _ _ _ _ _ _ _ _ _ h (hT.keep hb1) 20 (by decide)).mono ?_
    rintro e w2 ⟨hb2, c', y', rfl, hF⟩
    have hQ2 := (hb2.block _ hz).trans hQ
    obtain ⟨y0, y1, y2, y3, y4, y5, yf⟩ := cells6 hQ2
    have hb3 := hb1.trans (hb2.mono hb1.size)
    go_wp2_with fail
    refine bodyPost_ret (v := .tuple #[.agg #[.slice a ts.length cap, .int .i64 i, .int .i64 fin, .int .i64 n, .int .i64 c', .int .i64 y'], .string M.em]) (by simp [results, Tryz.results19, go_sem, y0, y1, y2, y3, y4, y5, M.em]) rfl ⟨?_, _, _, _, _, rfl, by rw [HN.out.1]; exact hF, fun S x e => absurd e (HN.out.2 S x)⟩
    refine Below.setCell (Below.setCell (Below.setCell (Below.setCell (Below.setCell (Below.setCell hb3 ?_ _) ?_ _) ?_ _) ?_ _) ?_ _) ?_ _
    all_goals simp
  · obtain ⟨S, rfl⟩ := isNameR_ok hr
    obtain ⟨rfl, rfl, hlt, hS⟩ := h.step (M.isName_ne (show S.isName = true from hr))
    obtain ⟨_, _, rfl⟩ := h.good S rfl
    have HN : Hid (nameR (.ok ⟨ts.drop i, fin, n, d⟩) = .ok ((M.St.mk (ts.drop i) fin n d).adv, ts[i].t)) := by
      unfold Hid; rw [nameR_yes hr, now_t_name _ _ _ _ _ hlt hr]
    have HS := hid hS
    clear hS
    obtain ⟨u1, u2, av, cv, eq, u3⟩ := hT
    simp only [Value.slice.injEq] at eq
    obtain ⟨rfl, _, rfl⟩ := eq
    rcases u3 with u3 | ⟨b, o, rfl, hbl, hcell⟩
    · rw [u3] at hlt; simp at hlt
    have hT : TokAt w (.slice (some ⟨b, o, none⟩) ts.length cap) ts := ⟨u1, u2, _, _, rfl, .inr ⟨b, o, rfl, hbl, hcell⟩⟩
    obtain ⟨p1, p2, p3⟩ := hcell i hlt
    have hii : (i : Int) < (ts.length : Int) := by omega
    clear hcell u2
    go_enter Tryz.func19, Tryz.ntmps19
    go_wp2_with fail
    refine (risName_any _ _ _ _ _ _ _ _ _ _ _ h (hT.keep (below_two _ _))).mono ?_
    rintro e w1 ⟨rfl, hb⟩
    obtain ⟨hP, hQ, hz, hb1⟩ := two_new hb
    obtain ⟨x0, x1, x2, x3, x4, x5, xf⟩ := cells6 hP
    obtain ⟨y0, y1, y2, y3, y4, y5, yf⟩ := cells6 hQ
    have q2 := (hb1.cell (p := ⟨b, o + i * 3 + 1, none⟩) hbl).trans p2
    have hbl1 : b < w1.heap.size := by omega
    rw [hr]
    go_wp2_with fail
    go_region
    all_goals
      go_wp2_with fail
      refine bodyPost_ret (v := .tuple #[.agg #[.slice (some ⟨b, o, none⟩) ts.length cap, .int .i64 ((i + 1 : Nat) : Int), .int .i64 fin, .int .i64 n, .int .i64 0, .int .i64 0], .string ts[i].t]) (by simp [results, Tryz.results19, go_sem, y0, y1, y2, y3, y4, y5]) rfl ⟨?_, _, _, _, _, rfl, by rw [HN.out]; exact HS.out, fun S x e => by rw [HN.out] at e; cases e; rfl⟩
      repeat (first | with_reducible exact hb1 | with_reducible refine Below.setCell ?_ (by simp) _ | with_reducible refine Below.drew ?_)
end Go.Proofs.YtkonkdhoakcmdaaGreatDoor
