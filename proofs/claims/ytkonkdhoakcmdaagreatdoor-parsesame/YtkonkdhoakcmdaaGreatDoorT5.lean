/-
  The walk of the document's reader's operand (proteanref02). Conditions: the state's.
-/
import Derived.Test.YtkonkdhoakcmdaaGreatDoorT4
set_option linter.unusedVariables false
set_option linter.unusedSimpArgs false
namespace Go.Proofs.YtkonkdhoakcmdaaGreatDoor
open Go.RowKit

/-- a block that stays -/
theorem kept {W W' : World} {g : Nat} {o : Obj} (hb : Below W.heap.size W W') (h : W.heap[g]? = some o) : W'.heap[g]? = some o := (hb.block g (Array.getElem?_eq_some_iff.1 h).1).trans h
theorem kset {W : World} {g : Nat} {o : Obj} (h : W.heap[g]? = some o) {p : Addr} (hne : g ≠ p.block) (u : Value) : (W.setCell p u).heap[g]? = some o := (Below.heap_setCell _ _ _ _ hne).trans h
theorem hlt_ {W : World} {g : Nat} {o : Obj} (h : W.heap[g]? = some o) : g < W.heap.size := (Array.getElem?_eq_some_iff.1 h).1
theorem three_new {w w1 : World} {A B C : Obj} (hb : Below (((w.alloc A).alloc B).alloc C).heap.size (((w.alloc A).alloc B).alloc C) w1) : w1.heap[w.heap.size]? = some A ∧ w1.heap[w.heap.size + 1]? = some B ∧ w1.heap[w.heap.size + 2]? = some C ∧ Below w.heap.size w w1 := by
  have hN := heap_alloc_new (w.alloc A) B
  simp only [World.size_alloc] at hN
  have hM := heap_alloc_new ((w.alloc A).alloc B) C
  simp only [World.size_alloc] at hM
  have h0 : ((w.alloc A).alloc B).heap[w.heap.size]? = some A := (Below.heap_alloc _ _ _ (by simp)).trans (heap_alloc_new w A)
  refine ⟨kept hb ((Below.heap_alloc _ _ _ (by simp; omega)).trans h0), kept hb ((Below.heap_alloc _ _ _ (by simp)).trans hN), kept hb hM, ?_⟩
  exact ((((Below.refl _ _).alloc (Nat.le_refl _) _).alloc (by simp) _).alloc (by simp; omega) _).trans (hb.mono (by simp; omega))
theorem below_three {w : World} (A B C : Obj) : Below w.heap.size w (((w.alloc A).alloc B).alloc C) := (((Below.refl _ _).alloc (Nat.le_refl _) _).alloc (by simp) _).alloc (by simp; omega) _
theorem tcells3 {w : World} {r : Nat} {T : TypeId} {v0 v1 v2 : Value} (h : w.heap[r]? = some (.cells #[v0, v1, v2] T (0, 0))) :
    w.cell? ⟨r, 0, none⟩ = some v0 ∧ w.cell? ⟨r, 1, none⟩ = some v1 ∧ w.cell? ⟨r, 2, none⟩ = some v2 ∧ (∀ i, w.frozen? ⟨r, i, none⟩ = false) := by
  refine ⟨?_, ?_, ?_, fun i => Lib.frozen_of_heap h i⟩
  all_goals (rw [Lib.cell_of_heap h]; rfl)

/-- the reader's operand -/
def operandR (r : RSt) : M.Res M.Opd := bindR r M.operand
theorem opR_null {S : M.St} (h : S.at M.kNull = true) : operandR (.ok S) = .ok (S.adv, ⟨0, 0, M.em⟩) := by simp [operandR, bindR, M.operand, h]
theorem opR_true {S : M.St} (h0 : S.at M.kNull = false) (h : S.at M.kTrue = true) : operandR (.ok S) = .ok (S.adv, ⟨1, 1, M.em⟩) := by simp [operandR, bindR, M.operand, h, h0]
theorem opR_false {S : M.St} (h0 : S.at M.kNull = false) (h1 : S.at M.kTrue = false) (h : S.at M.kFalse = true) : operandR (.ok S) = .ok (S.adv, ⟨1, 0, M.em⟩) := by simp [operandR, bindR, M.operand, h, h0, h1]
theorem opR_amp {S : M.St} (h0 : S.at M.kNull = false) (h1 : S.at M.kTrue = false) (h2 : S.at M.kFalse = false) (h : S.at (M.ch 38) = true) :
    stR (operandR (.ok S)) = stR (nameR (.ok S.adv)) ∧ ∀ S' x, operandR (.ok S) = .ok (S', x) → ∃ s, nameR (.ok S.adv) = .ok (S', s) ∧ x = ⟨3, 0, s⟩ := by
  simp only [operandR, bindR, M.operand, h, h0, h1, h2, nameR]
  cases M.name S.adv with
  | error e => exact ⟨rfl, fun S' x e => by cases e⟩
  | ok p => exact ⟨rfl, fun S' x e => by cases e; exact ⟨_, rfl, rfl⟩⟩
theorem opR_num {S : M.St} (h0 : S.at M.kNull = false) (h1 : S.at M.kTrue = false) (h2 : S.at M.kFalse = false) (h3 : S.at (M.ch 38) = false) (h : S.now.k = 1) :
    operandR (.ok S) = .ok (S.adv, ⟨2, M.numV S.now.t.data.toList, M.em⟩) := by simp [operandR, bindR, M.operand, h, h0, h1, h2, h3]
theorem opR_var {r : RSt} (h0 : isR r M.kNull = false) (h1 : isR r M.kTrue = false) (h2 : isR r M.kFalse = false) (h3 : isR r (M.ch 38) = false) (h : ∀ S, r = .ok S → ¬ S.now.k = 1) :
    stR (operandR r) = stR (nameR r) ∧ ∀ S' x, operandR r = .ok (S', x) → ∃ s, nameR r = .ok (S', s) ∧ x = ⟨4, 0, s⟩ := by
  cases r with
  | error f => exact ⟨rfl, fun S' x e => by cases e⟩
  | ok S =>
    have h4 := h S rfl
    simp only [isR] at h0 h1 h2 h3
    simp only [operandR, bindR, M.operand, if_neg h4, h0, h1, h2, h3, nameR]
    cases M.name S with
    | error e => exact ⟨rfl, fun S' x e => by cases e⟩
    | ok p => exact ⟨rfl, fun S' x e => by cases e; exact ⟨_, rfl, rfl⟩⟩
/-- the text at which it is -/
theorem at_text {ts : List M.Tok} {fin : Int} {i n d : Nat} {t : ByteArray} (h : i < ts.length) (ht : t ≠ M.em) (ha : (M.St.mk (ts.drop i) fin n d).at t = true) : ts[i].t = t := by
  unfold M.St.at at ha
  have e := of_decide_eq_true ha
  rw [now_at _ _ _ _ _ h] at e
  by_cases hm : M.may1 ts[i] = true
  · rw [if_pos hm] at e; exact e
  · rw [if_neg hm] at e; exact absurd e.symm ht

set_option maxRecDepth 4000 in
set_option maxHeartbeats 3200000 in
theorem rword_any (a : Option Addr) (cap : Nat) (ts : List M.Tok) (fin : Int) (d : Nat) (S : M.St) (i n : Nat) (c y : Int) (w : World) (h : RS ts fin d (.ok S) i n c y) (hT : TokAt w (.slice a ts.length cap) ts) (hk : S.at M.kNull = true ∨ S.at M.kTrue = true ∨ S.at M.kFalse = true) :
    Calls Tryz.prog 56 #[.agg #[.slice a ts.length cap, .int .i64 i, .int .i64 fin, .int .i64 n, .int .i64 c, .int .i64 y]] w fun e w' => Below w.heap.size w w' ∧ ∃ (i' : Nat) (c' y' : Int) (o : M.Opd), e = .returned (.tuple #[.agg #[.slice a ts.length cap, .int .i64 i', .int .i64 fin, .int .i64 n, .int .i64 c', .int .i64 y'], .agg #[.int .i64 o.k, .int .i64 o.n, .string o.s]]) ∧ RS ts fin d (stR (operandR (.ok S))) i' n c' y' ∧ ∀ S' x, operandR (.ok S) = .ok (S', x) → o = x := by
  have hlen := hT.1
  have hi := h.lt
  have hne : S.rest ≠ [] := by rcases hk with h | h | h <;> exact M.at_ne h (by decide)
  obtain ⟨rfl, rfl, hlt, hS⟩ := h.step hne
  have HS := hid hS
  clear hS
  obtain ⟨_, _, rfl⟩ := h.good S rfl
  obtain ⟨u1, u2, av, cv, eq, u3⟩ := hT
  simp only [Value.slice.injEq] at eq
  obtain ⟨rfl, _, rfl⟩ := eq
  rcases u3 with u3 | ⟨b, o, rfl, hbl, hcell⟩
  · rw [u3] at hlt; simp at hlt
  have hT : TokAt w (.slice (some ⟨b, o, none⟩) ts.length cap) ts := ⟨u1, u2, _, _, rfl, .inr ⟨b, o, rfl, hbl, hcell⟩⟩
  obtain ⟨p1, p2, p3⟩ := hcell i hlt
  have hii : (i : Int) < (ts.length : Int) := by omega
  clear hcell u2 p1 p3
  cases k0 : (M.St.mk (ts.drop i) fin n d).at M.kNull
  · cases k1 : (M.St.mk (ts.drop i) fin n d).at M.kTrue
    · have k2 : (M.St.mk (ts.drop i) fin n d).at M.kFalse = true := by rcases hk with h | h | h; rw [k0] at h; cases h; rw [k1] at h; cases h; exact h
      have HO := hid (opR_false k0 k1 k2)
      rw [at_text hlt (by decide) k2] at p2
      unfold M.kFalse at p2
      go_enter Tryz.func56, Tryz.ntmps56
      go_wp2_with fail
      refine (ris_any _ _ _ _ _ _ _ _ _ _ _ h (hT.keep (below_three _ _ _)) M.kNull (by decide) (by decide)).mono ?_
      rintro e w1 ⟨rfl, hb⟩
      obtain ⟨hP, hQ, hO, hb1⟩ := three_new hb
      obtain ⟨x0, x1, x2, x3, x4, x5, xf⟩ := cells6 hP
      rw [show isR (.ok (M.St.mk (ts.drop i) fin n d)) M.kNull = false from k0]
      go_wp2_with fail
      refine (ris_any _ _ _ _ _ _ _ _ _ _ _ h (hT.keep hb1) M.kTrue (by decide) (by decide)).mono ?_
      rintro e w2 ⟨rfl, hb2⟩
      clear x0 x1 x2 x3 x4 x5 xf
      obtain ⟨x0, x1, x2, x3, x4, x5, xf⟩ := cells6 (kept hb2 hP)
      have hb3 := hb1.trans (hb2.mono hb1.size)
      rw [show isR (.ok (M.St.mk (ts.drop i) fin n d)) M.kTrue = false from k1]
      go_wp2_with fail
      refine (ris_any _ _ _ _ _ _ _ _ _ _ _ h (hT.keep hb3) M.kFalse (by decide) (by decide)).mono ?_
      rintro e w3 ⟨rfl, hb4⟩
      clear x0 x1 x2 x3 x4 x5 xf
      obtain ⟨x0, x1, x2, x3, x4, x5, xf⟩ := cells6 (kept hb4 (kept hb2 hP))
      obtain ⟨y0, y1, y2, y3, y4, y5, yf⟩ := cells6 (kept hb4 (kept hb2 hQ))
      obtain ⟨z0, z1, z2, zf⟩ := tcells3 (kept hb4 (kept hb2 hO))
      have hz := hlt_ (kept hb4 (kept hb2 hO))
      have hz1 : w.heap.size + 1 < w3.heap.size := by omega
      have hz2 : w.heap.size < w3.heap.size := by omega
      have hb5 := hb3.trans (hb4.mono hb3.size)
      have q2 := (hb5.cell (p := ⟨b, o + i * 3 + 1, none⟩) hbl).trans p2
      rw [show isR (.ok (M.St.mk (ts.drop i) fin n d)) M.kFalse = true from k2]
      go_wp2_with fail
      go_region
      all_goals
        go_wp2_with fail
        refine bodyPost_ret (v := .tuple #[.agg #[.slice (some ⟨b, o, none⟩) ts.length cap, .int .i64 ((i + 1 : Nat) : Int), .int .i64 fin, .int .i64 n, .int .i64 0, .int .i64 0], .agg #[.int .i64 1, .int .i64 0, .string M.em]]) (by simp [results, Tryz.results56, go_sem, y0, y1, y2, y3, y4, y5, z0, z1, z2, M.em, hz, hz1, hz2]) rfl ⟨?_, i + 1, 0, 0, ⟨1, 0, M.em⟩, rfl, by rw [HO.out]; exact HS.out, fun S x e => by rw [HO.out] at e; cases e; rfl⟩
        repeat (first | with_reducible exact hb5 | with_reducible refine Below.setCell ?_ (by first | (simp; done) | (simp; omega)) _ | with_reducible refine Below.drew ?_ | with_reducible refine Below.alloc ?_ (by first | (simp; done) | (simp; omega)) _)
    · have HO := hid (opR_true k0 k1)
      rw [at_text hlt (by decide) k1] at p2
      unfold M.kTrue at p2
      go_enter Tryz.func56, Tryz.ntmps56
      go_wp2_with fail
      refine (ris_any _ _ _ _ _ _ _ _ _ _ _ h (hT.keep (below_three _ _ _)) M.kNull (by decide) (by decide)).mono ?_
      rintro e w1 ⟨rfl, hb⟩
      obtain ⟨hP, hQ, hO, hb1⟩ := three_new hb
      obtain ⟨x0, x1, x2, x3, x4, x5, xf⟩ := cells6 hP
      rw [show isR (.ok (M.St.mk (ts.drop i) fin n d)) M.kNull = false from k0]
      go_wp2_with fail
      refine (ris_any _ _ _ _ _ _ _ _ _ _ _ h (hT.keep hb1) M.kTrue (by decide) (by decide)).mono ?_
      rintro e w3 ⟨rfl, hb2⟩
      clear x0 x1 x2 x3 x4 x5 xf
      obtain ⟨x0, x1, x2, x3, x4, x5, xf⟩ := cells6 (kept hb2 hP)
      obtain ⟨y0, y1, y2, y3, y4, y5, yf⟩ := cells6 (kept hb2 hQ)
      obtain ⟨z0, z1, z2, zf⟩ := tcells3 (kept hb2 hO)
      have hz := hlt_ (kept hb2 hO)
      have hz1 : w.heap.size + 1 < w3.heap.size := by omega
      have hz2 : w.heap.size < w3.heap.size := by omega
      have hb5 := hb1.trans (hb2.mono hb1.size)
      have q2 := (hb5.cell (p := ⟨b, o + i * 3 + 1, none⟩) hbl).trans p2
      rw [show isR (.ok (M.St.mk (ts.drop i) fin n d)) M.kTrue = true from k1]
      go_wp2_with fail
      go_region
      all_goals
        go_wp2_with fail
        refine bodyPost_ret (v := .tuple #[.agg #[.slice (some ⟨b, o, none⟩) ts.length cap, .int .i64 ((i + 1 : Nat) : Int), .int .i64 fin, .int .i64 n, .int .i64 0, .int .i64 0], .agg #[.int .i64 1, .int .i64 1, .string M.em]]) (by simp [results, Tryz.results56, go_sem, y0, y1, y2, y3, y4, y5, z0, z1, z2, M.em, hz, hz1, hz2]) rfl ⟨?_, i + 1, 0, 0, ⟨1, 1, M.em⟩, rfl, by rw [HO.out]; exact HS.out, fun S x e => by rw [HO.out] at e; cases e; rfl⟩
        repeat (first | with_reducible exact hb5 | with_reducible refine Below.setCell ?_ (by first | (simp; done) | (simp; omega)) _ | with_reducible refine Below.drew ?_ | with_reducible refine Below.alloc ?_ (by first | (simp; done) | (simp; omega)) _)
  · have HO := hid (opR_null k0)
    rw [at_text hlt (by decide) k0] at p2
    unfold M.kNull at p2
    go_enter Tryz.func56, Tryz.ntmps56
    go_wp2_with fail
    refine (ris_any _ _ _ _ _ _ _ _ _ _ _ h (hT.keep (below_three _ _ _)) M.kNull (by decide) (by decide)).mono ?_
    rintro e w3 ⟨rfl, hb⟩
    obtain ⟨hP, hQ, hO, hb5⟩ := three_new hb
    obtain ⟨x0, x1, x2, x3, x4, x5, xf⟩ := cells6 hP
    obtain ⟨y0, y1, y2, y3, y4, y5, yf⟩ := cells6 hQ
    obtain ⟨z0, z1, z2, zf⟩ := tcells3 hO
    have hz := hlt_ hO
    have hz1 : w.heap.size + 1 < w3.heap.size := by omega
    have hz2 : w.heap.size < w3.heap.size := by omega
    have q2 := (hb5.cell (p := ⟨b, o + i * 3 + 1, none⟩) hbl).trans p2
    rw [show isR (.ok (M.St.mk (ts.drop i) fin n d)) M.kNull = true from k0]
    go_wp2_with fail
    refine bodyPost_ret (v := .tuple #[.agg #[.slice (some ⟨b, o, none⟩) ts.length cap, .int .i64 ((i + 1 : Nat) : Int), .int .i64 fin, .int .i64 n, .int .i64 0, .int .i64 0], .agg #[.int .i64 0, .int .i64 0, .string M.em]]) (by simp [results, Tryz.results56, go_sem, y0, y1, y2, y3, y4, y5, z0, z1, z2, M.em, hz, hz1, hz2]) rfl ⟨?_, i + 1, 0, 0, ⟨0, 0, M.em⟩, rfl, by rw [HO.out]; exact HS.out, fun S x e => by rw [HO.out] at e; cases e; rfl⟩
    repeat (first | with_reducible exact hb5 | with_reducible refine Below.setCell ?_ (by first | (simp; done) | (simp; omega)) _ | with_reducible refine Below.drew ?_ | with_reducible refine Below.alloc ?_ (by first | (simp; done) | (simp; omega)) _)
end Go.Proofs.YtkonkdhoakcmdaaGreatDoor
