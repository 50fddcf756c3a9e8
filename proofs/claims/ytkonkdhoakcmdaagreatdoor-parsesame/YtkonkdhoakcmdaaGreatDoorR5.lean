/-
  The walk of a reader's operands: what stands between parentheses. No conditions.
-/
import Derived.Test.YtkonkdhoakcmdaaGreatDoorR4
set_option linter.unusedVariables false
namespace Go.Proofs.YtkonkdhoakcmdaaGreatDoor
open Go.RowKit

theorem OpsIn.mono {r L R base : Nat} {w0 w w' : World} {S S' : M.St} {l : List M.Opd} (h : OpsIn r L R base w0 w S l) (o : Only r w w') (hle : S'.rest.length ≤ S.rest.length) : OpsIn r L R base w0 w' S' l := by
  obtain ⟨only, hr, R0, R1, L0, L1, ne, bs, boxR, ⟨v, boxL, own⟩, few⟩ := h
  refine ⟨only.trans o, hr, R0, R1, L0, L1, ne, Nat.le_trans bs o.size, ?_, ⟨v, ?_, ownsRow_only own o (by omega)⟩, by omega⟩
  · rw [o.block R (by omega) (by omega)]; exact boxR
  · rw [o.block L (by omega) (by omega)]; exact boxL

theorem M.itemOp_short {S S' : M.St} {l l' : List M.Opd} (h : M.itemOp S l = .ok (S', l')) : S'.rest.length < S.rest.length := by
  obtain ⟨S1, o, h1, h2⟩ := M.bnd_ok h
  cases h2
  exact M.operand_short h1

set_option maxHeartbeats 400000 in
theorem operands_any (r : Nat) (S : M.St) (w : World) (h : Rd w r S) :
    Calls Tryz.prog 85 #[.pointer (some ⟨r, 0, none⟩)] w (Ends r w (opsEnc w) (M.operands S)) := by
  have hlt := h.lt
  have hmf : ∀ (fn : Fn) (first cap : Array Value) (w : World), (Instr.makeFunc fn first cap).run Tryz.prog w = .ok (.func fn first cap) w := fun _ _ _ _ => rfl
  have ha := (h.alloc (.cells #[.pointer (some ⟨r, 0, none⟩)] 40)).alloc (.cells #[.slice none 0 0] 57)
  have oa : Only r w ((w.alloc (.cells #[.pointer (some ⟨r, 0, none⟩)] 40)).alloc (.cells #[.slice none 0 0] 57)) := ((Only.refl r w).alloc _).alloc _
  have bR : ((w.alloc (.cells #[.pointer (some ⟨r, 0, none⟩)] 40)).alloc (.cells #[.slice none 0 0] 57)).heap[w.heap.size]? = some (.cells #[.pointer (some ⟨r, 0, none⟩)] 40 (0, 0)) :=
    (Below.heap_alloc _ _ _ (by simp)).trans (heap_alloc_new w _)
  have bL : ((w.alloc (.cells #[.pointer (some ⟨r, 0, none⟩)] 40)).alloc (.cells #[.slice none 0 0] 57)).heap[w.heap.size + 1]? = some (.cells #[.slice none 0 0] 57 (0, 0)) := by
    have := heap_alloc_new (w.alloc (.cells #[.pointer (some ⟨r, 0, none⟩)] 40)) (.cells #[.slice none 0 0] 57)
    rw [World.size_alloc] at this; exact this
  have hin : OpsIn r (w.heap.size + 1) w.heap.size (w.heap.size + 2) w ((w.alloc (.cells #[.pointer (some ⟨r, 0, none⟩)] 40)).alloc (.cells #[.slice none 0 0] 57)) S [] :=
    ⟨oa, hlt, by omega, by omega, by omega, by omega, by omega, by simp, bR, ⟨_, bL, World.ownsRow_nil _ _ _ _⟩, by simpa using h.few⟩
  go_enter Tryz.func85, Tryz.ntmps85
  go_wp2_with fail
  refine (take_any r S (M.ch 40) _ ha (by decide)).mono ?_
  rintro e w1 ⟨o1, hok, herr⟩
  cases htk : M.take S (M.ch 40) with
  | error f =>
    obtain rfl := herr f htk
    refine ⟨rfl, oa.trans o1, ?_, ?_⟩
    · intro S' b' hr'; rw [M.operands, htk] at hr'; cases hr'
    · intro f' hr'; rw [M.operands, htk] at hr'; cases hr'; rfl
  | ok p =>
    obtain ⟨S1, u⟩ := p
    obtain ⟨v, rfl, r1, hv⟩ := hok S1 u htk
    obtain rfl : v = .tuple #[] := hv
    have HR : Hid (M.operands S = M.list (M.ch 41) M.itemOp S1 []) := by unfold Hid; rw [M.operands, htk]; rfl
    have hin1 := hin.mono o1 (S' := S1) (M.take_le htk).rest
    have cR1 : w1.cell? ⟨w.heap.size, 0, none⟩ = some (.pointer (some ⟨r, 0, none⟩)) := by rw [Lib.cell_of_heap hin1.boxR]; rfl
    go_wp2_with fail
    refine (list_ops r (M.ch 41) (by decide) M.itemOp (fun W S l => OpsIn r (w.heap.size + 1) w.heap.size (w.heap.size + 2) w W S l) _ _ w (fun _ _ _ h => h.only) (fun _ _ _ _ _ h o l => h.mono o l) (fun _ _ _ _ h => M.itemOp_short h)
      (fun W S l hR hI => opItem_any r _ _ _ w W S l hR hI) S1 [] _ r1 hin1).mono ?_
    rintro e w2 ⟨o2, hok2, herr2⟩
    cases hls : M.list (M.ch 41) M.itemOp S1 [] with
    | error f =>
      obtain rfl := herr2 f hls
      refine ⟨rfl, o2, ?_, ?_⟩
      · intro S' b' hr'; rw [HR.out, hls] at hr'; cases hr'
      · intro f' hr'; rw [HR.out, hls] at hr'; cases hr'; rfl
    | ok p =>
      obtain ⟨S2, l⟩ := p
      obtain ⟨rfl, r2, i2⟩ := hok2 S2 l hls
      obtain ⟨v, boxL, own⟩ := i2.boxL
      have cL2 : w2.cell? ⟨w.heap.size + 1, 0, none⟩ = some v := by rw [Lib.cell_of_heap boxL]; rfl
      go_wp2_with fail
      go_ret
      refine ⟨o2, ?_, ?_⟩
      · intro S' b' hr'
        rw [HR.out, hls] at hr'
        simp only [Except.ok.injEq, Prod.mk.injEq] at hr'
        obtain ⟨rfl, rfl⟩ := hr'
        exact ⟨_, rfl, r2, SlAt.of_owns own (fun b hb hx => by have : b < w.heap.size := hx; omega) (by have := i2.few; omega)⟩
      · intro f' hr'; rw [HR.out, hls] at hr'; cases hr'
end Go.Proofs.YtkonkdhoakcmdaaGreatDoor
