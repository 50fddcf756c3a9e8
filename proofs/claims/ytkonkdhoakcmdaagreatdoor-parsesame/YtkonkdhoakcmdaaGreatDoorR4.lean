/-
  The walks of a reader's list, over each of the three closures that are handed to it: whatever an item reads, the list reads items parted by commas up to its last sign. Conditions: what the closure does at one item.
-/
import Derived.Test.YtkonkdhoakcmdaaGreatDoorR3
import Derived.Deep.LoopGhost
set_option linter.unusedVariables false
namespace Go.Proofs.YtkonkdhoakcmdaaGreatDoor
open Go.RowKit

set_option maxHeartbeats 400000 in
theorem list_ops {β : Type} (r : Nat) (last : ByteArray) (hlast : last.size ≠ 0) (item : M.St → β → M.Res β) (Inv : World → M.St → β → Prop) (c1 c2 : Value) (w0 : World)
    (hOnly : ∀ w S b, Inv w S b → Only r w0 w) (hMono : ∀ w w' S S' b, Inv w S b → Only r w w' → S'.rest.length ≤ S.rest.length → Inv w' S' b)
    (hshort : ∀ S b S' b', item S b = .ok (S', b') → S'.rest.length < S.rest.length)
    (hitem : ∀ w S b, Rd w r S → Inv w S b → Calls Tryz.prog 90 #[c1, c2] w fun e w' => Only r w0 w' ∧ (∀ S' b', item S b = .ok (S', b') → e = .returned (.tuple #[]) ∧ Rd w' r S' ∧ Inv w' S' b') ∧ (∀ f, item S b = .error f → e = .panicked (stopOf f)))
    (S : M.St) (b : β) (w : World) (h : Rd w r S) (hi : Inv w S b) :
    Calls Tryz.prog 51 #[.pointer (some ⟨r, 0, none⟩), .string last, .func (.func 90) #[] #[c1, c2]] w fun e w' => Only r w0 w' ∧
      (∀ S' b', M.list last item S b = .ok (S', b') → e = .returned (.tuple #[]) ∧ Rd w' r S' ∧ Inv w' S' b') ∧ (∀ f, M.list last item S b = .error f → e = .panicked (stopOf f)) := by
  cases hl : S.at last
  · have HR : Hid (M.list last item S b = M.bnd (item S b) fun S1 b1 => M.bnd (M.more item S1.rest.length S1 b1) fun S2 b2 => M.bnd (M.take S2 last) fun S3 _ => .ok (S3, b2)) := by unfold Hid; simp [M.list, hl]
    go_enter Tryz.func51, Tryz.ntmps51
    go_wp2_with fail
    refine (passIf_no r S last _ h hl).mono ?_
    rintro e w' ⟨rfl, rfl⟩
    go_wp2_with fail
    refine (hitem _ S b h hi).mono ?_
    rintro e w1 ⟨o1, hok, herr⟩
    cases hit : item S b with
    | error f =>
      obtain rfl := herr f hit
      refine ⟨rfl, o1, ?_, ?_⟩
      · intro S' b' hr'; rw [HR.out, hit] at hr'; cases hr'
      · intro f' hr'; rw [HR.out, hit] at hr'; cases hr'; rfl
    | ok p =>
      obtain ⟨S1, b1⟩ := p
      obtain ⟨rfl, r1, i1⟩ := hok S1 b1 hit
      have HR1 : Hid (M.list last item S b = M.bnd (M.more item S1.rest.length S1 b1) fun S2 b2 => M.bnd (M.take S2 last) fun S3 _ => .ok (S3, b2)) := by unfold Hid; rw [HR.out, hit]; rfl
      clear HR hok herr
      go_wp2_with fail
      go_loopg [] S1.rest.length (fun k wr => ∃ S2 b2, Rd wr r S2 ∧ Inv wr S2 b2 ∧ S2.rest.length ≤ k ∧ Hid (M.more item S1.rest.length S1 b1 = M.more item k S2 b2))
      case atStart => exact ⟨S1, b1, r1, i1, Nat.le_refl _, rfl⟩
      case round =>
        obtain ⟨S2, b2, r2, i2, hk, HM⟩ := hrel
        cases hc : S2.at (M.ch 44)
        · have HM2 : Hid (M.list last item S b = M.bnd (M.take S2 last) fun S3 _ => .ok (S3, b2)) := by
            unfold Hid; rw [HR1.out, HM.out]
            cases gk with
            | zero => rfl
            | succ k => simp only [M.more, hc]; rfl
          go_wp2_with fail
          refine (passIf_no r S2 (M.ch 44) _ r2 hc).mono ?_
          rintro e w' ⟨rfl, rfl⟩
          go_wp2_with fail
          refine (take_any r S2 last _ r2 hlast).mono ?_
          rintro e w3 ⟨o3, hok, herr⟩
          cases htk : M.take S2 last with
          | error f =>
            obtain rfl := herr f htk
            refine ⟨rfl, (hOnly _ _ _ i2).trans o3, ?_, ?_⟩
            · intro S' b' hr'; rw [HM2.out, htk] at hr'; cases hr'
            · intro f' hr'; rw [HM2.out, htk] at hr'; cases hr'; rfl
          | ok p =>
            obtain ⟨S3, u⟩ := p
            obtain ⟨v, rfl, r3, hv⟩ := hok S3 u htk
            obtain rfl : v = .tuple #[] := hv
            go_wp2_with fail
            go_end0
            refine ⟨(hOnly _ _ _ i2).trans o3, ?_, ?_⟩
            · intro S' b' hr'
              rw [HM2.out, htk] at hr'
              simp only [M.bnd, Except.ok.injEq, Prod.mk.injEq] at hr'
              obtain ⟨rfl, rfl⟩ := hr'
              exact ⟨rfl, r3, hMono _ _ _ _ _ i2 o3 (M.take_le htk).rest⟩
            · intro f' hr'; rw [HM2.out, htk] at hr'; cases hr'
        · have hne := M.at_ne hc (by decide)
          have hsh := M.adv_short hne
          cases gk with
          | zero => exact absurd (List.length_eq_zero_iff.1 (Nat.le_zero.1 hk)) hne
          | succ k =>
            have HM2 : Hid (M.more item S1.rest.length S1 b1 = M.bnd (item S2.adv b2) (M.more item k)) := by
              unfold Hid; rw [HM.out]; simp only [M.more, hc]; rfl
            go_wp2_with fail
            refine (passIf_yes r S2 (M.ch 44) _ r2 hc (by decide)).mono ?_
            rintro e w3 ⟨rfl, r3, o3⟩
            go_wp2_with fail
            refine (hitem _ S2.adv b2 r3 (hMono _ _ _ _ _ i2 o3 (Nat.le_of_lt hsh))).mono ?_
            rintro e w4 ⟨o4, hok, herr⟩
            cases hit2 : item S2.adv b2 with
            | error f =>
              obtain rfl := herr f hit2
              refine ⟨rfl, o4, ?_, ?_⟩
              · intro S' b' hr'; rw [HR1.out, HM2.out, hit2] at hr'; cases hr'
              · intro f' hr'; rw [HR1.out, HM2.out, hit2] at hr'; cases hr'; rfl
            | ok p =>
              obtain ⟨S4, b4⟩ := p
              obtain ⟨rfl, r4, i4⟩ := hok S4 b4 hit2
              have hs4 := hshort _ _ _ _ hit2
              go_wp2_with fail
              go_roundg k
              case measure => omega
              case rel => exact ⟨S4, b4, r4, i4, by omega, by unfold Hid; rw [HM2.out, hit2]; rfl⟩
  · have HR : Hid (M.list last item S b = .ok (S.adv, b)) := by unfold Hid; simp [M.list, hl]
    go_enter Tryz.func51, Tryz.ntmps51
    go_wp2_with fail
    refine (passIf_yes r S last _ h hl hlast).mono ?_
    rintro e w1 ⟨rfl, r1, o1⟩
    go_wp2_with fail
    refine bodyPost_ret (results_none rfl _ _ _) rfl ⟨(hOnly _ _ _ hi).trans o1, ?_, ?_⟩
    · intro S' b' hr'
      rw [HR.out] at hr'
      simp only [Except.ok.injEq, Prod.mk.injEq] at hr'
      obtain ⟨rfl, rfl⟩ := hr'
      exact ⟨rfl, r1, hMono _ _ _ _ _ hi o1 (M.adv_le S).rest⟩
    · intro f' hr'; rw [HR.out] at hr'; cases hr'

set_option maxHeartbeats 400000 in
theorem list_fun {β : Type} (r : Nat) (last : ByteArray) (hlast : last.size ≠ 0) (item : M.St → β → M.Res β) (Inv : World → M.St → β → Prop) (c1 c2 : Value) (w0 : World)
    (hOnly : ∀ w S b, Inv w S b → Only r w0 w) (hMono : ∀ w w' S S' b, Inv w S b → Only r w w' → S'.rest.length ≤ S.rest.length → Inv w' S' b)
    (hshort : ∀ S b S' b', item S b = .ok (S', b') → S'.rest.length < S.rest.length)
    (hitem : ∀ w S b, Rd w r S → Inv w S b → Calls Tryz.prog 52 #[c1, c2] w fun e w' => Only r w0 w' ∧ (∀ S' b', item S b = .ok (S', b') → e = .returned (.tuple #[]) ∧ Rd w' r S' ∧ Inv w' S' b') ∧ (∀ f, item S b = .error f → e = .panicked (stopOf f)))
    (S : M.St) (b : β) (w : World) (h : Rd w r S) (hi : Inv w S b) :
    Calls Tryz.prog 51 #[.pointer (some ⟨r, 0, none⟩), .string last, .func (.func 52) #[] #[c1, c2]] w fun e w' => Only r w0 w' ∧
      (∀ S' b', M.list last item S b = .ok (S', b') → e = .returned (.tuple #[]) ∧ Rd w' r S' ∧ Inv w' S' b') ∧ (∀ f, M.list last item S b = .error f → e = .panicked (stopOf f)) := by
  cases hl : S.at last
  · have HR : Hid (M.list last item S b = M.bnd (item S b) fun S1 b1 => M.bnd (M.more item S1.rest.length S1 b1) fun S2 b2 => M.bnd (M.take S2 last) fun S3 _ => .ok (S3, b2)) := by unfold Hid; simp [M.list, hl]
    go_enter Tryz.func51, Tryz.ntmps51
    go_wp2_with fail
    refine (passIf_no r S last _ h hl).mono ?_
    rintro e w' ⟨rfl, rfl⟩
    go_wp2_with fail
    refine (hitem _ S b h hi).mono ?_
    rintro e w1 ⟨o1, hok, herr⟩
    cases hit : item S b with
    | error f =>
      obtain rfl := herr f hit
      refine ⟨rfl, o1, ?_, ?_⟩
      · intro S' b' hr'; rw [HR.out, hit] at hr'; cases hr'
      · intro f' hr'; rw [HR.out, hit] at hr'; cases hr'; rfl
    | ok p =>
      obtain ⟨S1, b1⟩ := p
      obtain ⟨rfl, r1, i1⟩ := hok S1 b1 hit
      have HR1 : Hid (M.list last item S b = M.bnd (M.more item S1.rest.length S1 b1) fun S2 b2 => M.bnd (M.take S2 last) fun S3 _ => .ok (S3, b2)) := by unfold Hid; rw [HR.out, hit]; rfl
      clear HR hok herr
      go_wp2_with fail
      go_loopg [] S1.rest.length (fun k wr => ∃ S2 b2, Rd wr r S2 ∧ Inv wr S2 b2 ∧ S2.rest.length ≤ k ∧ Hid (M.more item S1.rest.length S1 b1 = M.more item k S2 b2))
      case atStart => exact ⟨S1, b1, r1, i1, Nat.le_refl _, rfl⟩
      case round =>
        obtain ⟨S2, b2, r2, i2, hk, HM⟩ := hrel
        cases hc : S2.at (M.ch 44)
        · have HM2 : Hid (M.list last item S b = M.bnd (M.take S2 last) fun S3 _ => .ok (S3, b2)) := by
            unfold Hid; rw [HR1.out, HM.out]
            cases gk with
            | zero => rfl
            | succ k => simp only [M.more, hc]; rfl
          go_wp2_with fail
          refine (passIf_no r S2 (M.ch 44) _ r2 hc).mono ?_
          rintro e w' ⟨rfl, rfl⟩
          go_wp2_with fail
          refine (take_any r S2 last _ r2 hlast).mono ?_
          rintro e w3 ⟨o3, hok, herr⟩
          cases htk : M.take S2 last with
          | error f =>
            obtain rfl := herr f htk
            refine ⟨rfl, (hOnly _ _ _ i2).trans o3, ?_, ?_⟩
            · intro S' b' hr'; rw [HM2.out, htk] at hr'; cases hr'
            · intro f' hr'; rw [HM2.out, htk] at hr'; cases hr'; rfl
          | ok p =>
            obtain ⟨S3, u⟩ := p
            obtain ⟨v, rfl, r3, hv⟩ := hok S3 u htk
            obtain rfl : v = .tuple #[] := hv
            go_wp2_with fail
            go_end0
            refine ⟨(hOnly _ _ _ i2).trans o3, ?_, ?_⟩
            · intro S' b' hr'
              rw [HM2.out, htk] at hr'
              simp only [M.bnd, Except.ok.injEq, Prod.mk.injEq] at hr'
              obtain ⟨rfl, rfl⟩ := hr'
              exact ⟨rfl, r3, hMono _ _ _ _ _ i2 o3 (M.take_le htk).rest⟩
            · intro f' hr'; rw [HM2.out, htk] at hr'; cases hr'
        · have hne := M.at_ne hc (by decide)
          have hsh := M.adv_short hne
          cases gk with
          | zero => exact absurd (List.length_eq_zero_iff.1 (Nat.le_zero.1 hk)) hne
          | succ k =>
            have HM2 : Hid (M.more item S1.rest.length S1 b1 = M.bnd (item S2.adv b2) (M.more item k)) := by
              unfold Hid; rw [HM.out]; simp only [M.more, hc]; rfl
            go_wp2_with fail
            refine (passIf_yes r S2 (M.ch 44) _ r2 hc (by decide)).mono ?_
            rintro e w3 ⟨rfl, r3, o3⟩
            go_wp2_with fail
            refine (hitem _ S2.adv b2 r3 (hMono _ _ _ _ _ i2 o3 (Nat.le_of_lt hsh))).mono ?_
            rintro e w4 ⟨o4, hok, herr⟩
            cases hit2 : item S2.adv b2 with
            | error f =>
              obtain rfl := herr f hit2
              refine ⟨rfl, o4, ?_, ?_⟩
              · intro S' b' hr'; rw [HR1.out, HM2.out, hit2] at hr'; cases hr'
              · intro f' hr'; rw [HR1.out, HM2.out, hit2] at hr'; cases hr'; rfl
            | ok p =>
              obtain ⟨S4, b4⟩ := p
              obtain ⟨rfl, r4, i4⟩ := hok S4 b4 hit2
              have hs4 := hshort _ _ _ _ hit2
              go_wp2_with fail
              go_roundg k
              case measure => omega
              case rel => exact ⟨S4, b4, r4, i4, by omega, by unfold Hid; rw [HM2.out, hit2]; rfl⟩
  · have HR : Hid (M.list last item S b = .ok (S.adv, b)) := by unfold Hid; simp [M.list, hl]
    go_enter Tryz.func51, Tryz.ntmps51
    go_wp2_with fail
    refine (passIf_yes r S last _ h hl hlast).mono ?_
    rintro e w1 ⟨rfl, r1, o1⟩
    go_wp2_with fail
    refine bodyPost_ret (results_none rfl _ _ _) rfl ⟨(hOnly _ _ _ hi).trans o1, ?_, ?_⟩
    · intro S' b' hr'
      rw [HR.out] at hr'
      simp only [Except.ok.injEq, Prod.mk.injEq] at hr'
      obtain ⟨rfl, rfl⟩ := hr'
      exact ⟨rfl, r1, hMono _ _ _ _ _ hi o1 (M.adv_le S).rest⟩
    · intro f' hr'; rw [HR.out] at hr'; cases hr'

set_option maxHeartbeats 400000 in
theorem list_obj {β : Type} (r : Nat) (last : ByteArray) (hlast : last.size ≠ 0) (item : M.St → β → M.Res β) (Inv : World → M.St → β → Prop) (c1 c2 : Value) (w0 : World)
    (hOnly : ∀ w S b, Inv w S b → Only r w0 w) (hMono : ∀ w w' S S' b, Inv w S b → Only r w w' → S'.rest.length ≤ S.rest.length → Inv w' S' b)
    (hshort : ∀ S b S' b', item S b = .ok (S', b') → S'.rest.length < S.rest.length)
    (hitem : ∀ w S b, Rd w r S → Inv w S b → Calls Tryz.prog 91 #[c1, c2] w fun e w' => Only r w0 w' ∧ (∀ S' b', item S b = .ok (S', b') → e = .returned (.tuple #[]) ∧ Rd w' r S' ∧ Inv w' S' b') ∧ (∀ f, item S b = .error f → e = .panicked (stopOf f)))
    (S : M.St) (b : β) (w : World) (h : Rd w r S) (hi : Inv w S b) :
    Calls Tryz.prog 51 #[.pointer (some ⟨r, 0, none⟩), .string last, .func (.func 91) #[] #[c1, c2]] w fun e w' => Only r w0 w' ∧
      (∀ S' b', M.list last item S b = .ok (S', b') → e = .returned (.tuple #[]) ∧ Rd w' r S' ∧ Inv w' S' b') ∧ (∀ f, M.list last item S b = .error f → e = .panicked (stopOf f)) := by
  cases hl : S.at last
  · have HR : Hid (M.list last item S b = M.bnd (item S b) fun S1 b1 => M.bnd (M.more item S1.rest.length S1 b1) fun S2 b2 => M.bnd (M.take S2 last) fun S3 _ => .ok (S3, b2)) := by unfold Hid; simp [M.list, hl]
    go_enter Tryz.func51, Tryz.ntmps51
    go_wp2_with fail
    refine (passIf_no r S last _ h hl).mono ?_
    rintro e w' ⟨rfl, rfl⟩
    go_wp2_with fail
    refine (hitem _ S b h hi).mono ?_
    rintro e w1 ⟨o1, hok, herr⟩
    cases hit : item S b with
    | error f =>
      obtain rfl := herr f hit
      refine ⟨rfl, o1, ?_, ?_⟩
      · intro S' b' hr'; rw [HR.out, hit] at hr'; cases hr'
      · intro f' hr'; rw [HR.out, hit] at hr'; cases hr'; rfl
    | ok p =>
      obtain ⟨S1, b1⟩ := p
      obtain ⟨rfl, r1, i1⟩ := hok S1 b1 hit
      have HR1 : Hid (M.list last item S b = M.bnd (M.more item S1.rest.length S1 b1) fun S2 b2 => M.bnd (M.take S2 last) fun S3 _ => .ok (S3, b2)) := by unfold Hid; rw [HR.out, hit]; rfl
      clear HR hok herr
      go_wp2_with fail
      go_loopg [] S1.rest.length (fun k wr => ∃ S2 b2, Rd wr r S2 ∧ Inv wr S2 b2 ∧ S2.rest.length ≤ k ∧ Hid (M.more item S1.rest.length S1 b1 = M.more item k S2 b2))
      case atStart => exact ⟨S1, b1, r1, i1, Nat.le_refl _, rfl⟩
      case round =>
        obtain ⟨S2, b2, r2, i2, hk, HM⟩ := hrel
        cases hc : S2.at (M.ch 44)
        · have HM2 : Hid (M.list last item S b = M.bnd (M.take S2 last) fun S3 _ => .ok (S3, b2)) := by
            unfold Hid; rw [HR1.out, HM.out]
            cases gk with
            | zero => rfl
            | succ k => simp only [M.more, hc]; rfl
          go_wp2_with fail
          refine (passIf_no r S2 (M.ch 44) _ r2 hc).mono ?_
          rintro e w' ⟨rfl, rfl⟩
          go_wp2_with fail
          refine (take_any r S2 last _ r2 hlast).mono ?_
          rintro e w3 ⟨o3, hok, herr⟩
          cases htk : M.take S2 last with
          | error f =>
            obtain rfl := herr f htk
            refine ⟨rfl, (hOnly _ _ _ i2).trans o3, ?_, ?_⟩
            · intro S' b' hr'; rw [HM2.out, htk] at hr'; cases hr'
            · intro f' hr'; rw [HM2.out, htk] at hr'; cases hr'; rfl
          | ok p =>
            obtain ⟨S3, u⟩ := p
            obtain ⟨v, rfl, r3, hv⟩ := hok S3 u htk
            obtain rfl : v = .tuple #[] := hv
            go_wp2_with fail
            go_end0
            refine ⟨(hOnly _ _ _ i2).trans o3, ?_, ?_⟩
            · intro S' b' hr'
              rw [HM2.out, htk] at hr'
              simp only [M.bnd, Except.ok.injEq, Prod.mk.injEq] at hr'
              obtain ⟨rfl, rfl⟩ := hr'
              exact ⟨rfl, r3, hMono _ _ _ _ _ i2 o3 (M.take_le htk).rest⟩
            · intro f' hr'; rw [HM2.out, htk] at hr'; cases hr'
        · have hne := M.at_ne hc (by decide)
          have hsh := M.adv_short hne
          cases gk with
          | zero => exact absurd (List.length_eq_zero_iff.1 (Nat.le_zero.1 hk)) hne
          | succ k =>
            have HM2 : Hid (M.more item S1.rest.length S1 b1 = M.bnd (item S2.adv b2) (M.more item k)) := by
              unfold Hid; rw [HM.out]; simp only [M.more, hc]; rfl
            go_wp2_with fail
            refine (passIf_yes r S2 (M.ch 44) _ r2 hc (by decide)).mono ?_
            rintro e w3 ⟨rfl, r3, o3⟩
            go_wp2_with fail
            refine (hitem _ S2.adv b2 r3 (hMono _ _ _ _ _ i2 o3 (Nat.le_of_lt hsh))).mono ?_
            rintro e w4 ⟨o4, hok, herr⟩
            cases hit2 : item S2.adv b2 with
            | error f =>
              obtain rfl := herr f hit2
              refine ⟨rfl, o4, ?_, ?_⟩
              · intro S' b' hr'; rw [HR1.out, HM2.out, hit2] at hr'; cases hr'
              · intro f' hr'; rw [HR1.out, HM2.out, hit2] at hr'; cases hr'; rfl
            | ok p =>
              obtain ⟨S4, b4⟩ := p
              obtain ⟨rfl, r4, i4⟩ := hok S4 b4 hit2
              have hs4 := hshort _ _ _ _ hit2
              go_wp2_with fail
              go_roundg k
              case measure => omega
              case rel => exact ⟨S4, b4, r4, i4, by omega, by unfold Hid; rw [HM2.out, hit2]; rfl⟩
  · have HR : Hid (M.list last item S b = .ok (S.adv, b)) := by unfold Hid; simp [M.list, hl]
    go_enter Tryz.func51, Tryz.ntmps51
    go_wp2_with fail
    refine (passIf_yes r S last _ h hl hlast).mono ?_
    rintro e w1 ⟨rfl, r1, o1⟩
    go_wp2_with fail
    refine bodyPost_ret (results_none rfl _ _ _) rfl ⟨(hOnly _ _ _ hi).trans o1, ?_, ?_⟩
    · intro S' b' hr'
      rw [HR.out] at hr'
      simp only [Except.ok.injEq, Prod.mk.injEq] at hr'
      obtain ⟨rfl, rfl⟩ := hr'
      exact ⟨rfl, r1, hMono _ _ _ _ _ hi o1 (M.adv_le S).rest⟩
    · intro f' hr'; rw [HR.out] at hr'; cases hr'
end Go.Proofs.YtkonkdhoakcmdaaGreatDoor
