/-
  The walks of a reader's operand and oneOperand. Conditions: those that each fact names.
-/
import Derived.Test.YtkonkdhoakcmdaaGreatDoorR1
import Derived.Deep.RegionHeldLaw
import Derived.Deep.RegionHeld3
set_option linter.unusedVariables false
namespace Go.Proofs.YtkonkdhoakcmdaaGreatDoor
open Go.RowKit

theorem dig_val (c : UInt8) (h : M.pDig c = true) : Lib.digitVal c = some (c.toNat - 48) ∧ 48 ≤ c.toNat ∧ c.toNat ≤ 57 := by
  have h1 : M.cls c.toNat = 4 := of_decide_eq_true h
  have h2 : 48 ≤ (c.toNat : Int) ∧ (c.toNat : Int) ≤ 57 := by
    unfold M.cls at h1
    split at h1
    · cases h1
    · split at h1
      · cases h1
      · split at h1
        · cases h1
        · split at h1
          · assumption
          · split at h1
            · cases h1
            · split at h1 <;> cases h1
  have h3 : 48 ≤ c.toNat ∧ c.toNat ≤ 57 := by omega
  refine ⟨?_, h3⟩
  unfold Lib.digitVal
  simp
  omega

theorem dec_num : ∀ (l : List UInt8) (acc : Nat), l.all M.pDig = true → ∃ m : Nat, Lib.decFrom acc l = some m ∧ (m : Int) = l.foldl (fun n c => 10 * n + ((c.toNat : Int) - 48)) (acc : Int)
  | [], acc, _ => ⟨acc, rfl, rfl⟩
  | c :: r, acc, h => by
    simp only [List.all_cons, Bool.and_eq_true] at h
    obtain ⟨h1, h2, h3⟩ := dig_val c h.1
    obtain ⟨m, hm, he⟩ := dec_num r (acc * 10 + (c.toNat - 48)) h.2
    refine ⟨m, ?_, ?_⟩
    · simp only [Lib.decFrom, h1]; exact hm
    · rw [he, List.foldl_cons]; congr 1; omega

theorem all_takeWhile (p : UInt8 → Bool) : ∀ l : List UInt8, (l.takeWhile p).all p = true
  | [] => rfl
  | c :: r => by
    cases h : p c
    · rw [List.takeWhile_cons_of_neg (by simp [h])]; rfl
    · rw [List.takeWhile_cons_of_pos h, List.all_cons, h, all_takeWhile p r]; rfl
theorem all_of_ext (p : UInt8 → Bool) (l : List UInt8) (h : M.ext p l 0 = l.length) : l.all p = true := by
  simp only [M.ext, List.drop_zero, Nat.zero_add] at h
  have e : l.takeWhile p = l := (List.takeWhile_sublist (p := p) (l := l)).eq_of_length h
  rw [← e]; exact all_takeWhile p l

theorem atoi_num (l : List UInt8) (h : M.numB l = true) : Lib.atoi l = some (M.numV l) := by
  simp only [M.numB, Bool.and_eq_true, Bool.not_eq_true', beq_iff_eq, decide_eq_true_eq] at h
  have hall := all_of_ext _ _ h.2.2
  cases l with
  | nil => simp at h
  | cons c r =>
    have hc := hall
    simp only [List.all_cons, Bool.and_eq_true] at hc
    obtain ⟨h1, h2, h3⟩ := dig_val c hc.1
    obtain ⟨m, hm, he⟩ := dec_num (c :: r) 0 hall
    have n1 : (c == 45) = false := by rw [beq_eq_false_iff_ne]; intro e; rw [e] at h2; exact absurd h2 (by decide)
    have n2 : (c == 43) = false := by rw [beq_eq_false_iff_ne]; intro e; rw [e] at h2; exact absurd h2 (by decide)
    simp only [Lib.atoi, n1, n2, Lib.decNat, List.isEmpty_cons, hm]
    simp [M.numV, he]

theorem now_num (S : M.St) (h : S.now.k = 1) : M.numB S.now.t.data.toList = true ∧ S.rest ≠ [] := by
  obtain ⟨rest, fin, n, d⟩ := S
  unfold M.St.now at h ⊢
  cases rest with
  | nil => rw [nowNil] at h; simp at h
  | cons x l =>
    cases hm : M.may1 x
    · rw [nowNo _ _ _ hm] at h; simp at h
    · rw [nowYes _ _ _ hm] at h ⊢
      unfold M.may1 at hm
      rw [if_neg (by omega), if_pos h] at hm
      exact ⟨hm, by simp⟩

theorem below_bytesW (w : World) (t : ByteArray) : Below w.heap.size w (Lib.bytesWorld w 5 t) :=
  ⟨rfl, rfl, rfl, by rw [Lib.bytesWorld_size]; omega, fun k hk => Lib.bytesWorld_at_old _ _ _ _ hk⟩

/-- three cells in a block that stays -/
theorem kept3 {w w1 : World} {r : Nat} {T : TypeId} {v0 v1 v2 : Value} (h : Only r (w.alloc (.cells #[v0, v1, v2] T)) w1) (hr : r < w.heap.size) :
    w1.cell? ⟨w.heap.size, 0, none⟩ = some v0 ∧ w1.cell? ⟨w.heap.size, 1, none⟩ = some v1 ∧ w1.cell? ⟨w.heap.size, 2, none⟩ = some v2 ∧ (∀ i, w1.frozen? ⟨w.heap.size, i, none⟩ = false) ∧ w.heap.size < w1.heap.size := by
  have hh := (h.block w.heap.size (by simp) (by omega)).trans (heap_alloc_new w (.cells #[v0, v1, v2] T))
  refine ⟨?_, ?_, ?_, fun i => Lib.frozen_of_heap hh i, (Array.getElem?_eq_some_iff.1 hh).1⟩
  all_goals (rw [Lib.cell_of_heap hh]; rfl)

def opEnc : M.Opd → Value → World → Prop := fun o v _ => v = .agg #[.int .i64 o.k, .int .i64 o.n, .string o.s]

theorem set3 {W : World} {g : Nat} {a b c : Value} (k0 : ∃ v, W.cell? ⟨g, 0, none⟩ = some v) (k1 : ∃ v, W.cell? ⟨g, 1, none⟩ = some v) (k2 : ∃ v, W.cell? ⟨g, 2, none⟩ = some v) :
    (((W.setCell ⟨g, 0, none⟩ a).setCell ⟨g, 1, none⟩ b).setCell ⟨g, 2, none⟩ c).cell? ⟨g, 0, none⟩ = some a ∧ (((W.setCell ⟨g, 0, none⟩ a).setCell ⟨g, 1, none⟩ b).setCell ⟨g, 2, none⟩ c).cell? ⟨g, 1, none⟩ = some b ∧ (((W.setCell ⟨g, 0, none⟩ a).setCell ⟨g, 1, none⟩ b).setCell ⟨g, 2, none⟩ c).cell? ⟨g, 2, none⟩ = some c := by
  obtain ⟨x, k0⟩ := k0
  obtain ⟨y, k1⟩ := k1
  obtain ⟨z, k2⟩ := k2
  refine ⟨?_, ?_, ?_⟩
  all_goals simp [go_sem, k0, k1, k2]

/-- an operand goes back -/
theorem op_ret {r : Nat} {w W : World} {S S' : M.St} {o : M.Opd} {tm : Array Value} (hres : M.operand S = .ok (S', o)) (hr : r < w.heap.size) (hO : Only r w W) (hR : Rd W r S')
    (ht : tm.getD 2 undef = .pointer (some ⟨w.heap.size, 0, none⟩))
    (k0 : ∃ v, W.cell? ⟨w.heap.size, 0, none⟩ = some v) (k1 : ∃ v, W.cell? ⟨w.heap.size, 1, none⟩ = some v) (k2 : ∃ v, W.cell? ⟨w.heap.size, 2, none⟩ = some v) :
    bodyPost Tryz.prog Tryz.f82 (Ends r w opEnc (M.operand S)) Exit.ret { tmps := tm, defers := [] } (((W.setCell ⟨w.heap.size, 0, none⟩ (.int .i64 o.k)).setCell ⟨w.heap.size, 1, none⟩ (.int .i64 o.n)).setCell ⟨w.heap.size, 2, none⟩ (.string o.s)) := by
  obtain ⟨c0, c1, c2⟩ := set3 (a := .int .i64 o.k) (b := .int .i64 o.n) (c := .string o.s) k0 k1 k2
  refine bodyPost_ret (v := .agg #[.int .i64 o.k, .int .i64 o.n, .string o.s]) ?_ rfl ⟨((hO.setCell (.inr (Nat.le_refl _)) _).setCell (.inr (Nat.le_refl _)) _).setCell (.inr (Nat.le_refl _)) _, ?_, ?_⟩
  · generalize (((W.setCell ⟨w.heap.size, 0, none⟩ (.int .i64 o.k)).setCell ⟨w.heap.size, 1, none⟩ (.int .i64 o.n)).setCell ⟨w.heap.size, 2, none⟩ (.string o.s)) = X at c0 c1 c2 ⊢
    simp only [Array.getD_eq_getD_getElem?] at ht
    simp [results, Tryz.results82, go_sem, ht, c0, c1, c2]
  · intro S1 a hr'
    rw [hres] at hr'
    simp only [Except.ok.injEq, Prod.mk.injEq] at hr'
    obtain ⟨rfl, rfl⟩ := hr'
    exact ⟨_, rfl, ((hR.setCell hr _).setCell hr _).setCell hr _, rfl⟩
  · intro f hr'; rw [hres] at hr'; cases hr'

theorem only_new {r : Nat} {w w1 : World} {o : Obj} (h : Only r (w.alloc o) w1) : Only r w w1 := ((Only.refl r w).alloc o).trans h
set_option maxHeartbeats 800000 in
theorem operand_any (r : Nat) (S : M.St) (w : World) (h : Rd w r S) :
    Calls Tryz.prog 82 #[.pointer (some ⟨r, 0, none⟩)] w (Ends r w opEnc (M.operand S)) := by
  have hlt := h.lt
  have ha := h.alloc (.cells #[.int .i64 0, .int .i64 0, .string ⟨#[]⟩] 61)
  have e1 : (⟨#[110, 117, 108, 108]⟩ : ByteArray) = M.kNull := rfl
  cases h1 : S.at M.kNull
  · cases h2 : S.at M.kTrue
    · cases h3 : S.at M.kFalse
      · cases h4 : S.at (M.ch 38)
        · by_cases h5 : S.now.k = 1
          · have HR : Hid (M.operand S = .ok (S.adv, ⟨2, M.numV S.now.t.data.toList, M.em⟩)) := by unfold Hid; simp [M.operand, h1, h2, h3, h4, h5]
            obtain ⟨hnum, hne⟩ := now_num S h5
            have hat := atoi_num _ hnum
            have hsz : S.now.t.size ≤ 18 := by
              simp only [M.numB, Bool.and_eq_true, decide_eq_true_eq] at hnum
              have := hnum.2.1; rw [len_list] at this; omega
            obtain ⟨⟨v, hh, ht⟩, _, _⟩ := id ha
            obtain ⟨hv, hfin, hk, ht, hp, hn, hd, hfree, hlt'⟩ := cells7 hh
            rw [h5] at hk
            go_enter Tryz.func82, Tryz.ntmps82
            go_wp2_with fail
            refine (passIf_no r S M.kNull _ ha h1).mono ?_
            rintro e w' ⟨rfl, rfl⟩
            go_wp2_with fail
            refine (passIf_no r S M.kTrue _ ha h2).mono ?_
            rintro e w' ⟨rfl, rfl⟩
            go_wp2_with fail
            refine (passIf_no r S M.kFalse _ ha h3).mono ?_
            rintro e w' ⟨rfl, rfl⟩
            go_wp2_with fail
            refine (passIf_no r S (M.ch 38) _ ha h4).mono ?_
            rintro e w' ⟨rfl, rfl⟩
            go_wp2_with fail
            refine (pass_any r S _ ha hne).mono ?_
            rintro e w1 ⟨rfl, r1, o1⟩
            go_wp2_with fail
            refine (Tryz.strconv_Atoi _ _ hsz hat _).mono ?_
            rintro e w2 ⟨rfl, tt, rfl⟩
            have hb2 := below_bytesW w1 tt
            have o2 := o1.below hb2
            obtain ⟨k0, k1, k2, kf, kz⟩ := kept3 o2 hlt
            generalize hW2 : Lib.bytesWorld w1 5 tt = W2 at hb2 o2 k0 k1 k2 kf kz ⊢
            clear hv hfin hk ht hp hn hd hfree
            go_wp2_with fail
            exact op_ret (o := ⟨2, M.numV S.now.t.data.toList, M.em⟩) HR.out hlt (only_new o2) (r1.below hb2) rfl ⟨_, k0⟩ ⟨_, k1⟩ ⟨_, k2⟩
          · have HR : Hid (M.operand S = M.bnd (M.name S) fun S1 n => .ok (S1, ⟨4, 0, n⟩)) := by unfold Hid; simp [M.operand, h1, h2, h3, h4, h5]
            obtain ⟨⟨v, hh, ht⟩, _, _⟩ := id ha
            obtain ⟨hv, hfin, hk, ht, hp, hn, hd, hfree, hlt'⟩ := cells7 hh
            have hkd : (S.now.k == 1) = false := by simpa using h5
            go_enter Tryz.func82, Tryz.ntmps82
            go_wp2_with fail
            refine (passIf_no r S M.kNull _ ha h1).mono ?_
            rintro e w' ⟨rfl, rfl⟩
            go_wp2_with fail
            refine (passIf_no r S M.kTrue _ ha h2).mono ?_
            rintro e w' ⟨rfl, rfl⟩
            go_wp2_with fail
            refine (passIf_no r S M.kFalse _ ha h3).mono ?_
            rintro e w' ⟨rfl, rfl⟩
            go_wp2_with fail
            refine (passIf_no r S (M.ch 38) _ ha h4).mono ?_
            rintro e w' ⟨rfl, rfl⟩
            go_wp2_with fail
            refine (name_any r S _ ha).mono ?_
            rintro e w3 ⟨o3, hok, herr⟩
            cases hnm : M.name S with
            | error f =>
              obtain rfl := herr f hnm
              refine ⟨rfl, only_new o3, ?_, ?_⟩
              · intro S1 a hr'; rw [HR.out, hnm] at hr'; cases hr'
              · intro f' hr'; rw [HR.out, hnm] at hr'; cases hr'; rfl
            | ok p =>
              obtain ⟨S1, nm⟩ := p
              obtain ⟨v3, rfl, r3, hv3⟩ := hok S1 nm hnm
              obtain rfl : v3 = .string nm := hv3
              obtain ⟨k0, k1, k2, kf, kz⟩ := kept3 (o3) hlt
              go_wp2_with fail
              exact op_ret (S' := S1) (o := ⟨4, 0, nm⟩) (by rw [HR.out, hnm]; rfl) hlt (only_new (o3)) r3 rfl ⟨_, k0⟩ ⟨_, k1⟩ ⟨_, k2⟩
        · have HR : Hid (M.operand S = M.bnd (M.name S.adv) fun S1 n => .ok (S1, ⟨3, 0, n⟩)) := by unfold Hid; simp [M.operand, h1, h2, h3, h4]
          go_enter Tryz.func82, Tryz.ntmps82
          go_wp2_with fail
          refine (passIf_no r S M.kNull _ ha h1).mono ?_
          rintro e w' ⟨rfl, rfl⟩
          go_wp2_with fail
          refine (passIf_no r S M.kTrue _ ha h2).mono ?_
          rintro e w' ⟨rfl, rfl⟩
          go_wp2_with fail
          refine (passIf_no r S M.kFalse _ ha h3).mono ?_
          rintro e w' ⟨rfl, rfl⟩
          go_wp2_with fail
          refine (passIf_yes r S (M.ch 38) _ ha h4 (by decide)).mono ?_
          rintro e w1 ⟨rfl, r1, o1⟩
          go_wp2_with fail
          refine (name_any r S.adv _ r1).mono ?_
          rintro e w3 ⟨o3, hok, herr⟩
          cases hnm : M.name S.adv with
          | error f =>
            obtain rfl := herr f hnm
            refine ⟨rfl, only_new (o1.trans o3), ?_, ?_⟩
            · intro S1 a hr'; rw [HR.out, hnm] at hr'; cases hr'
            · intro f' hr'; rw [HR.out, hnm] at hr'; cases hr'; rfl
          | ok p =>
            obtain ⟨S1, nm⟩ := p
            obtain ⟨v3, rfl, r3, hv3⟩ := hok S1 nm hnm
            obtain rfl : v3 = .string nm := hv3
            obtain ⟨k0, k1, k2, kf, kz⟩ := kept3 ((o1.trans o3)) hlt
            go_wp2_with fail
            exact op_ret (S' := S1) (o := ⟨3, 0, nm⟩) (by rw [HR.out, hnm]; rfl) hlt (only_new ((o1.trans o3))) r3 rfl ⟨_, k0⟩ ⟨_, k1⟩ ⟨_, k2⟩
      · have HR : Hid (M.operand S = .ok (S.adv, ⟨1, 0, M.em⟩)) := by unfold Hid; simp [M.operand, h1, h2, h3]
        go_enter Tryz.func82, Tryz.ntmps82
        go_wp2_with fail
        refine (passIf_no r S M.kNull _ ha h1).mono ?_
        rintro e w' ⟨rfl, rfl⟩
        go_wp2_with fail
        refine (passIf_no r S M.kTrue _ ha h2).mono ?_
        rintro e w' ⟨rfl, rfl⟩
        go_wp2_with fail
        refine (passIf_yes r S M.kFalse _ ha h3 (by decide)).mono ?_
        rintro e w1 ⟨rfl, r1, o1⟩
        obtain ⟨k0, k1, k2, kf, kz⟩ := kept3 o1 hlt
        go_wp2_with fail
        exact op_ret (o := ⟨1, 0, M.em⟩) HR.out hlt (only_new o1) r1 rfl ⟨_, k0⟩ ⟨_, k1⟩ ⟨_, k2⟩
    · have HR : Hid (M.operand S = .ok (S.adv, ⟨1, 1, M.em⟩)) := by unfold Hid; simp [M.operand, h1, h2]
      go_enter Tryz.func82, Tryz.ntmps82
      go_wp2_with fail
      refine (passIf_no r S M.kNull _ ha h1).mono ?_
      rintro e w' ⟨rfl, rfl⟩
      go_wp2_with fail
      refine (passIf_yes r S M.kTrue _ ha h2 (by decide)).mono ?_
      rintro e w1 ⟨rfl, r1, o1⟩
      obtain ⟨k0, k1, k2, kf, kz⟩ := kept3 o1 hlt
      go_wp2_with fail
      exact op_ret (o := ⟨1, 1, M.em⟩) HR.out hlt (only_new o1) r1 rfl ⟨_, k0⟩ ⟨_, k1⟩ ⟨_, k2⟩
  · have HR : Hid (M.operand S = .ok (S.adv, ⟨0, 0, M.em⟩)) := by unfold Hid; simp [M.operand, h1]
    go_enter Tryz.func82, Tryz.ntmps82
    go_wp2_with fail
    refine (passIf_yes r S M.kNull _ ha h1 (by decide)).mono ?_
    rintro e w1 ⟨rfl, r1, o1⟩
    obtain ⟨k0, k1, k2, kf, kz⟩ := kept3 o1 hlt
    go_wp2_with fail
    exact op_ret (o := ⟨0, 0, M.em⟩) HR.out hlt (only_new o1) r1 rfl ⟨_, k0⟩ ⟨_, k1⟩ ⟨_, k2⟩
/-- a new row -/
theorem slAt_new (w : World) (X : Nat → Prop) (T : TypeId) (n cap : Nat) (cs : List Value) (arr : Array Value) (hr : ¬ X w.heap.size) (hn : n ≤ 4398046511104) (ha : arr = cs.toArray) :
    SlAt (w.alloc (.cells arr T)) X (.slice (some ⟨w.heap.size, 0, none⟩) n cap) n cs := by
  subst ha
  have hh := heap_alloc_new w (.cells cs.toArray T)
  refine ⟨hn, some ⟨w.heap.size, 0, none⟩, cap, rfl, .inr ⟨w.heap.size, 0, rfl, by simp, hr, fun i u hu => ?_⟩⟩
  rw [Lib.cell_of_heap hh]; simpa using hu

def opsEnc (w0 : World) : List M.Opd → Value → World → Prop := fun l v w => OpsAt w (Old w0) v l

theorem oneOperand_any (r : Nat) (S : M.St) (w : World) (h : Rd w r S) :
    Calls Tryz.prog 79 #[.pointer (some ⟨r, 0, none⟩)] w (Ends r w (opsEnc w) (M.oneOperand S)) := by
  have hlt := h.lt
  go_enter Tryz.func79, Tryz.ntmps79
  go_wp2_with fail
  refine (operand_any r S _ h).mono ?_
  rintro e w3 ⟨o3, hok, herr⟩
  cases hnm : M.operand S with
  | error f =>
    obtain rfl := herr f hnm
    refine ⟨rfl, o3, ?_, ?_⟩
    · intro S1 a hr'; rw [M.oneOperand, hnm] at hr'; cases hr'
    · intro f' hr'; rw [M.oneOperand, hnm] at hr'; cases hr'; rfl
  | ok p =>
    obtain ⟨S1, o⟩ := p
    obtain ⟨v3, rfl, r3, hv3⟩ := hok S1 o hnm
    obtain rfl : v3 = .agg #[.int .i64 o.k, .int .i64 o.n, .string o.s] := hv3
    go_wp2_with fail
    go_ret
    refine ⟨o3.alloc _, ?_, ?_⟩
    · intro S2 a hr'
      rw [M.oneOperand, hnm] at hr'
      simp only [M.bnd, Except.ok.injEq, Prod.mk.injEq] at hr'
      obtain ⟨rfl, rfl⟩ := hr'
      exact ⟨_, rfl, r3.alloc _, slAt_new w3 _ _ 1 1 [.int .i64 o.k, .int .i64 o.n, .string o.s] _ (Nat.not_lt.2 o3.size) (by omega) rfl⟩
    · intro f' hr'; rw [M.oneOperand, hnm] at hr'; cases hr'
end Go.Proofs.YtkonkdhoakcmdaaGreatDoor
