/-
  proteanlaw02.ParsePlaces, walked: whatever the string and the number are: true, and all that was there is as it was. No conditions.
-/
import Derived.Test.YtkonkdhoakcmdaaDoorS9
import Derived.Test.YtkonkdhoakcmdaaDoorLI
import Derived.Test.YtkonkdhoakcmdaaDoorP7
set_option linter.unusedVariables false
namespace Go.Proofs.YtkonkdhoakcmdaaDoor
open Go.RowKit
namespace ParsePlaces

theorem tok_take {w : World} {a : Option Addr} {cap : Nat} {ts : List M.Tok} (h : TokAt w (.slice a ts.length cap) ts) (i : Nat) (hi : i ≤ ts.length) : TokAt w (.slice a i cap) (ts.take i) := by
  obtain ⟨h1, h2, a', cap', e, h3⟩ := h
  simp only [Value.slice.injEq] at e
  obtain ⟨rfl, _, rfl⟩ := e
  have hl : (ts.take i).length = i := by rw [List.length_take]; omega
  refine ⟨by omega, fun x hx => h2 x (List.mem_of_mem_take hx), a, cap, by rw [hl], ?_⟩
  rcases h3 with rfl | ⟨b, o, rfl, hlt, hc⟩
  · left; simp
  · refine .inr ⟨b, o, rfl, hlt, fun j hj => ?_⟩
    rw [hl] at hj
    have := hc j (by omega)
    simpa only [List.getElem_take] using this

theorem rlexAt (s : ByteArray) (ts : List M.Tok) (c y : Int) (w : World) (hs : s.size ≤ maxLen) (hr : M.lex s.data.toList = (ts, c, y)) :
    Calls Tryd.prog 6 #[.string s] w fun e w' => Below w.heap.size w w' ∧ ∃ a cap, e = .returned (.tuple #[.slice a ts.length cap, .agg #[.int .i64 c, .int .i64 y]]) ∧ TokAt w' (.slice a ts.length cap) ts ∧ (∀ b o n c, Value.slice a ts.length cap = .slice (some ⟨b, o, none⟩) n c → b < w'.heap.size) ∧ ts.length ≤ cap ∧ cap ≤ maxLen := by
  refine (rLex_any s w hs).mono ?_
  rintro e w' ⟨v, rfl, own, hb⟩
  obtain ⟨t1, t2, t3, t4⟩ := lexed hb own
  obtain ⟨av, cv, rfl⟩ := own_form own
  rw [hr] at t1 t2 t3 ⊢
  exact ⟨hb, av, cv, rfl, t1, t2, (t3 _ _ _ rfl).1, (t3 _ _ _ rfl).2⟩

theorem readAt (a : Option Addr) (k cap : Nat) (l : List M.Tok) (fin : Int) (p : List M.Fn) (f : M.Flt) (w : World) (h : TokAt w (.slice a k cap) l) (hap : ∀ b o n c, Value.slice a k cap = .slice (some ⟨b, o, none⟩) n c → b < w.heap.size) (hk : k ≤ cap) (hcap : cap ≤ maxLen) (hfew : l.length ≤ 4398046511104) (hr : M.readR l fin = (p, f)) :
    Calls Tryd.prog 7 #[.slice a k cap, .int .i64 fin] w fun e w' => Below w.heap.size w w' ∧ ∃ a' c', e = .returned (.tuple #[.agg #[.slice a' p.length c'], .agg #[.int .i64 f.1, .int .i64 f.2]]) := by
  refine (read_any _ l fin w h hap (fun a' n c e => ?_) hfew).mono ?_
  · simp only [Value.slice.injEq] at e
    obtain ⟨_, rfl, rfl⟩ := e
    exact ⟨hk, hcap⟩
  · rintro e w' ⟨hb, vf, rfl, hP⟩
    rw [hr] at hP ⊢
    obtain ⟨a', c', rfl⟩ : ∃ a c, vf = .slice a p.length c := by obtain ⟨_, h1, _⟩ := hP; exact SlAt.form h1
    exact ⟨hb, a', c', rfl⟩

set_option maxRecDepth 8000 in
set_option maxHeartbeats 1600000 in
theorem walk_easy (s : ByteArray) (n : Int) (w : World) (hs : s.size ≤ maxLen) (p : List M.Fn) (x y : Int) (H : Hid (M.parseR s.data.toList = (p, (x, y)))) (hc : 2000 < s.size ∨ (s.size ≤ 2000 ∧ x = 0 ∧ y = 0)) :
    Calls Tryd.prog 3 #[.string s, .int .i64 n] w fun e w' => e = .returned (.bool true) ∧ Below w.heap.size w w' := by
  have hs25 := stood25
  have hg25 := guard25
  unfold maxLen at hs
  go_enter Tryd.func3, Tryd.ntmps3
  go_wp2_with fail
  refine (parseAt _ _ _ _ _ (by unfold maxLen; omega) rfl H.out).mono ?_
  rintro e w1 ⟨hb1, b1, c1, rfl, hP1⟩
  go_wp2_with fail
  refine (fixed_any _).mono ?_
  rintro e w2 ⟨rfl, hb2⟩
  simp only [World.size_alloc] at hb2
  have hz := hb2.size
  simp only [World.size_alloc] at hz
  have q0 : w2.cell? ⟨w1.heap.size + 1, 0, none⟩ = some (.int .i64 x) := by
    rw [hb2.cell (p := ⟨w1.heap.size + 1, 0, none⟩) (by simp only; omega)]
    have := heap_alloc_new (w1.alloc (.cells #[.slice b1 p.length c1] 24)) (.cells #[.int .i64 x, .int .i64 y] 27)
    simp only [World.size_alloc] at this
    rw [Lib.cell_of_heap this]; rfl
  have q1 : w2.cell? ⟨w1.heap.size + 1, 1, none⟩ = some (.int .i64 y) := by
    rw [hb2.cell (p := ⟨w1.heap.size + 1, 1, none⟩) (by simp only; omega)]
    have := heap_alloc_new (w1.alloc (.cells #[.slice b1 p.length c1] 24)) (.cells #[.int .i64 x, .int .i64 y] 27)
    simp only [World.size_alloc] at this
    rw [Lib.cell_of_heap this]; rfl
  have hl1 : w1.heap.size + 1 < w2.heap.size := by omega
  have hbb : Below w.heap.size w w2 := hb1.trans (((((Below.refl w1.heap.size w1).alloc (Nat.le_refl _) _).alloc (by simp) _).trans (hb2.mono (by omega))).mono hb1.size)
  clear hz
  rcases hc with hc | ⟨hc, rfl, rfl⟩
  · go_wp2_with (go_at_call 5; refine (fixed_any _).mono ?_; rintro e w4 ⟨rfl, hb4⟩)
    go_ret
    exact ⟨rfl, hbb.trans (hb4.mono hbb.size)⟩
  · go_wp2_with fail
    go_ret
    exact ⟨rfl, hbb⟩
end ParsePlaces
end Go.Proofs.YtkonkdhoakcmdaaDoor
