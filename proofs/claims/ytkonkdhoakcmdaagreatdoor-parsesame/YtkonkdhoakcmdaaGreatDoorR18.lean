/-
  The walk of Read: what program tokens are, or their first fault. Conditions: the tokens lie in memory.
-/
import Derived.Test.YtkonkdhoakcmdaaGreatDoorR17
set_option linter.unusedVariables false
namespace Go.Proofs.YtkonkdhoakcmdaaGreatDoor
open Go.RowKit

def M.readR (l : List M.Tok) (fin : Int) : List M.Fn × M.Flt :=
  match M.read l fin with
  | .ok p => (p, (0, 0))
  | .error f => ([], f)

set_option maxRecDepth 8000 in
set_option maxHeartbeats 1600000 in
theorem read_any (v : Value) (l : List M.Tok) (fin : Int) (w : World) (h : TokAt w v l) (hap : ∀ b o n c, v = .slice (some ⟨b, o, none⟩) n c → b < w.heap.size) (hcap : ∀ a n c, v = .slice a n c → n ≤ c ∧ c ≤ maxLen) (hfew : l.length ≤ 4398046511104) :
    Calls Tryz.prog 6 #[v, .int .i64 fin] w fun e w' => Below w.heap.size w w' ∧ ∃ vf, e = .returned (.tuple #[.agg #[vf], .agg #[.int .i64 (M.readR l fin).2.1, .int .i64 (M.readR l fin).2.2]]) ∧ ProgAt w' (Old w) vf (M.readR l fin).1 := by
  have hmf : ∀ (fn : Fn) (first cap : Array Value) (w : World), (Instr.makeFunc fn first cap).run Tryz.prog w = .ok (.func fn first cap) w := fun _ _ _ _ => rfl
  have hb0 : Below w.heap.size w ((w.alloc zero1).alloc (.cells #[.int .i64 0, .int .i64 0] 28)) := ((Below.refl _ _).alloc (Nat.le_refl _) _).alloc (by simp) _
  have hp0 : ((w.alloc zero1).alloc (.cells #[.int .i64 0, .int .i64 0] 28)).heap[w.heap.size]? = some zero1 := (Below.heap_alloc _ _ _ (by simp)).trans (heap_alloc_new w _)
  have hq0 : ((w.alloc zero1).alloc (.cells #[.int .i64 0, .int .i64 0] 28)).heap[w.heap.size + 1]? = some (.cells #[.int .i64 0, .int .i64 0] 28) := by
    have := heap_alloc_new (w.alloc zero1) (.cells #[.int .i64 0, .int .i64 0] 28)
    simp only [World.size_alloc] at this; exact this
  have hz0 : ((w.alloc zero1).alloc (.cells #[.int .i64 0, .int .i64 0] 28)).heap.size = w.heap.size + 2 := by simp only [World.size_alloc]
  have ht0 := h.keep hb0
  generalize hwa : (w.alloc zero1).alloc (.cells #[.int .i64 0, .int .i64 0] 28) = wa at hb0 hp0 hq0 hz0 ht0
  have HWA := hid hwa
  have HZA := hid hz0
  clear hwa hz0
  go_enter_defers Tryz.func6, Tryz.ntmps6
  go_wp2_with fail
  have hg1 := HWA.out
  unfold zero1 at hg1
  rw [hg1]
  clear hg1
  have hzA := HZA.out
  refine (newReader_any v l fin _ ht0 (fun b o n c e => by have := hap b o n c e; omega) hcap hfew).mono ?_
  rintro e w1 ⟨rfl, r1, hb1⟩
  clear hzA
  go_wp2_with fail
  refine (program_any (l.length + 1) _ _ _ r1 (by show l.length ≤ _; omega)).mono ?_
  rintro e w2 ⟨o2, hok, herr⟩
  have hzA := HZA.out
  have hz1 := hb1.size
  have hz2 := o2.size
  have hw2 : Below (w.heap.size + 2) wa w2 := o2.to_below (by omega) (hb1.mono (by omega)) (by omega)
  have hp2 := (hw2.block w.heap.size (by omega)).trans hp0
  have hq2 := (hw2.block (w.heap.size + 1) (by omega)).trans hq0
  have hbw : Below w.heap.size w w2 := hb0.trans (hw2.mono (by omega))
  cases hfs : M.funcs (l.length + 1) (l.length + 1) ⟨l, fin, 0, 0⟩ [] with
  | error f =>
    obtain rfl := herr f hfs
    have hR : M.readR l fin = ([], f) := by unfold M.readR M.read; rw [hfs]
    refine leaves_cons (f := 15) (args := #[.pointer (some ⟨w.heap.size, 0, none⟩), .pointer (some ⟨w.heap.size + 1, 0, none⟩)]) (by simp) (by simp [go_sem]) ?_
    refine (catch_stop w.heap.size (w.heap.size + 1) f [] _ _ _ _ (by omega) hp2 hq2).mono ?_
    rintro e u' w3 ⟨rfl, rfl, hp3, hq3, hb3⟩
    have cp := cell0 hp3
    have cq0 : w3.cell? ⟨w.heap.size + 1, 0, none⟩ = some (.int .i64 f.1) := by rw [Lib.cell_of_heap hq3]; rfl
    have cq1 : w3.cell? ⟨w.heap.size + 1, 1, none⟩ = some (.int .i64 f.2) := by rw [Lib.cell_of_heap hq3]; rfl
    have hbb := hbw.trans (hb3 w.heap.size (Nat.le_refl _) (by omega) (by omega))
    simp [Leaves, settle, results, Tryz.results6, go_sem, cp, cq0, cq1]
    rw [hR]
    exact ⟨hbb, _, ⟨rfl, rfl, rfl⟩, [], SlAt.nil _ _, rfl⟩
  | ok p =>
    obtain ⟨S2, l2⟩ := p
    obtain ⟨v2, rfl, r2, vf, rfl, hP⟩ := hok S2 l2 hfs
    obtain ⟨av, cv, rfl⟩ : ∃ a c, vf = .slice a l2.length c := by obtain ⟨_, h1, _⟩ := hP; exact SlAt.form h1
    have hR : M.readR l fin = (l2, (0, 0)) := by unfold M.readR M.read; rw [hfs]
    have cp := cell0 hp2
    have cpf := Lib.frozen_of_heap hp2 0
    have cq0 : w2.cell? ⟨w.heap.size + 1, 0, none⟩ = some (.int .i64 0) := by rw [Lib.cell_of_heap hq2]; rfl
    have cq1 : w2.cell? ⟨w.heap.size + 1, 1, none⟩ = some (.int .i64 0) := by rw [Lib.cell_of_heap hq2]; rfl
    have cqf := fun i => Lib.frozen_of_heap hq2 i
    clear hok herr hzA
    go_wp2_with fail
    have hzA := HZA.out
    refine leaves_cons (f := 15) (args := #[.pointer (some ⟨w.heap.size, 0, none⟩), .pointer (some ⟨w.heap.size + 1, 0, none⟩)]) (by simp) (by simp [go_sem]) ?_
    refine (catch_idle _ _ _).mono ?_
    rintro e u' w3 ⟨rfl, rfl, rfl⟩
    have hbb : Below w.heap.size w (((w2.setCell ⟨w.heap.size, 0, none⟩ (.slice av l2.length cv)).setCell ⟨w.heap.size + 1, 0, none⟩ (.int .i64 0)).setCell ⟨w.heap.size + 1, 1, none⟩ (.int .i64 0)) :=
      ((hbw.setCell (p := ⟨w.heap.size, 0, none⟩) (Nat.le_refl _) _).setCell (p := ⟨w.heap.size + 1, 0, none⟩) (Nat.le_succ _) _).setCell (p := ⟨w.heap.size + 1, 1, none⟩) (Nat.le_succ _) _
    have hk : Keep (Old w1) w2 (((w2.setCell ⟨w.heap.size, 0, none⟩ (.slice av l2.length cv)).setCell ⟨w.heap.size + 1, 0, none⟩ (.int .i64 0)).setCell ⟨w.heap.size + 1, 1, none⟩ (.int .i64 0)) :=
      ((keep_set (X := Old w1) (p := ⟨w.heap.size, 0, none⟩) (by show w.heap.size < w1.heap.size; omega) _).trans (keep_set (p := ⟨w.heap.size + 1, 0, none⟩) (by show w.heap.size + 1 < w1.heap.size; omega) _)).trans (keep_set (p := ⟨w.heap.size + 1, 1, none⟩) (by show w.heap.size + 1 < w1.heap.size; omega) _)
    have hP2 := (hP.keep hk).weak (Y := Old w) fun b _ hx hy => hx (by have h1 : b < w.heap.size := hy; show b < w1.heap.size; omega)
    clear hzA
    simp [Leaves, settle, results, Tryz.results6, go_sem, cp, cq0, cq1]
    rw [hR]
    exact ⟨hbb, _, ⟨rfl, rfl, rfl⟩, hP2⟩
end Go.Proofs.YtkonkdhoakcmdaaGreatDoor
