/-
  The walk of the statements' fixed calls: they are answered as the document says, whatever is in memory. No conditions.
-/
import Derived.Test.YtkonkdhoakcmdaaGreatDoorS6
import Derived.KernelRfl
set_option linter.unusedVariables false
namespace Go.Proofs.YtkonkdhoakcmdaaGreatDoor
open Go.RowKit

def M.wantP : List M.Fn := [⟨M.ch 102, [M.ch 97], .cons 2 (M.ch 120) (M.ch 97) (M.ch 112) [] [] .nil .nil (.cons 11 M.em M.em M.em [⟨4, 0, M.ch 120⟩] [] .nil .nil .nil)⟩]
theorem M.fixA : M.parseR [102, 117, 110, 32, 102, 40, 97, 41, 32, 123, 32, 120, 32, 61, 32, 97, 46, 112, 59, 32, 114, 101, 116, 117, 114, 110, 32, 120, 59, 32, 125] = (M.wantP, (0, 0)) := by kernel_rfl
theorem M.fixB : M.parseR [102, 117, 110, 32, 102, 40, 32, 123] = ([], (20, 7)) := by kernel_rfl
theorem M.fixC : M.parseR [102, 117, 110, 32, 102, 40, 41, 32, 123, 32, 120, 32, 61, 32, 49, 59, 32] = ([], (20, 17)) := by kernel_rfl

theorem parseAt (s : ByteArray) (l : List UInt8) (p : List M.Fn) (f : M.Flt) (w : World) (hs : s.size ≤ maxLen) (hl : s.data.toList = l) (hr : M.parseR l = (p, f)) :
    Calls Tryz.prog 10 #[.string s] w fun e w' => Below w.heap.size w w' ∧ ∃ a c, e = .returned (.tuple #[.agg #[.slice a p.length c], .agg #[.int .i64 f.1, .int .i64 f.2]]) ∧ ProgAt w' NoX (.slice a p.length c) p := by
  subst hl
  refine (parse_any s w hs).mono ?_
  rintro e w' ⟨hb, vf, rfl, hP⟩
  rw [hr] at hP ⊢
  obtain ⟨a, c, rfl⟩ : ∃ a c, vf = .slice a p.length c := by obtain ⟨_, h1, _⟩ := hP; exact SlAt.form h1
  exact ⟨hb, a, c, rfl, hP.weak fun _ _ _ h => h⟩

/-- a row that lies in a block -/
theorem slAt_heap {w : World} {g n cap : Nat} {T : TypeId} (cs : List Value) (h : w.heap[g]? = some (.cells cs.toArray T)) (hn : n ≤ 4398046511104) : SlAt w NoX (.slice (some ⟨g, 0, none⟩) n cap) n cs :=
  ⟨hn, some ⟨g, 0, none⟩, cap, rfl, .inr ⟨g, 0, rfl, (Array.getElem?_eq_some_iff.1 h).1, fun h => h, fun i u hu => by rw [Lib.cell_of_heap h]; simpa using hu⟩⟩

set_option maxRecDepth 8000 in
set_option maxHeartbeats 3200000 in
theorem fixed_any (w : World) :
    Calls Tryz.prog 8 #[] w fun e w' => e = .returned (.bool true) ∧ Below w.heap.size w w' := by
  have hs25 := stood25
  have hg25 := guard25
  go_enter Tryz.func8, Tryz.ntmps8
  go_wp2_with fail
  refine (parseAt _ _ _ _ _ (by decide) rfl M.fixA).mono ?_
  rintro e w1 ⟨hb1, a1, c1, rfl, hP1⟩
  go_wp2_with fail
  refine (parseAt _ _ _ _ _ (by decide) rfl M.fixB).mono ?_
  rintro e w2 ⟨hb2, a2, c2, rfl, hP2⟩
  go_wp2_with fail
  refine (parseAt _ _ _ _ _ (by decide) rfl M.fixC).mono ?_
  rintro e w3 ⟨hb3, a3, c3, rfl, hP3⟩
  have z2 := hb2.size
  have z3 := hb3.size
  simp only [World.size_alloc] at z2 z3 hb2 hb3
  have p1 : w3.heap[w1.heap.size]? = some (.cells #[.slice a1 M.wantP.length c1] 25) := by
    rw [hb3.block _ (by omega), Below.heap_alloc _ _ _ (by simp only [World.size_alloc]; omega), Below.heap_alloc _ _ _ (by omega), hb2.block _ (by omega), Below.heap_alloc _ _ _ (by simp)]; exact heap_alloc_new w1 _
  have p2 : w3.heap[w1.heap.size + 1]? = some (.cells #[.int .i64 0, .int .i64 0] 28) := by
    rw [hb3.block _ (by omega), Below.heap_alloc _ _ _ (by simp only [World.size_alloc]; omega), Below.heap_alloc _ _ _ (by omega), hb2.block _ (by omega)]
    have := heap_alloc_new (w1.alloc (.cells #[.slice a1 M.wantP.length c1] 25)) (.cells #[.int .i64 0, .int .i64 0] 28)
    simp only [World.size_alloc] at this; exact this
  have p3 : w3.heap[w2.heap.size + 1]? = some (.cells #[.int .i64 20, .int .i64 7] 28) := by
    rw [hb3.block _ (by omega)]
    have := heap_alloc_new (w2.alloc (.cells #[.slice a2 0 c2] 25)) (.cells #[.int .i64 20, .int .i64 7] 28)
    simp only [World.size_alloc] at this; exact this
  have cp1 := cell0 p1
  have cp2 : w3.cell? ⟨w1.heap.size + 1, 0, none⟩ = some (.int .i64 0) := by rw [Lib.cell_of_heap p2]; rfl
  have cp3 : w3.cell? ⟨w1.heap.size + 1, 1, none⟩ = some (.int .i64 0) := by rw [Lib.cell_of_heap p2]; rfl
  have hq1 : w1.heap.size < w3.heap.size := by omega
  have hpast : ∀ (o1 o2 o3 o4 o5 o6 o7 : Obj) (b i : Nat), b < w3.heap.size → (((((((w3.alloc o1).alloc o2).alloc o3).alloc o4).alloc o5).alloc o6).alloc o7).cell? ⟨b, i, none⟩ = w3.cell? ⟨b, i, none⟩ := fun o1 o2 o3 o4 o5 o6 o7 b i hb => by
    refine World.cell?_of_block (w := w3) (a := ⟨b, i, none⟩) ?_
    show (((((((w3.alloc o1).alloc o2).alloc o3).alloc o4).alloc o5).alloc o6).alloc o7).heap[b]? = w3.heap[b]?
    rw [Below.heap_alloc _ _ _ (by simp only [World.size_alloc]; omega), Below.heap_alloc _ _ _ (by simp only [World.size_alloc]; omega), Below.heap_alloc _ _ _ (by simp only [World.size_alloc]; omega), Below.heap_alloc _ _ _ (by simp only [World.size_alloc]; omega), Below.heap_alloc _ _ _ (by simp only [World.size_alloc]; omega), Below.heap_alloc _ _ _ (by simp only [World.size_alloc]; omega), Below.heap_alloc _ _ _ hb]
  have x1 := fun o1 o2 o3 o4 o5 o6 o7 => (hpast o1 o2 o3 o4 o5 o6 o7 w1.heap.size 0 (by omega)).trans cp1
  have x2 := fun o1 o2 o3 o4 o5 o6 o7 => (hpast o1 o2 o3 o4 o5 o6 o7 (w1.heap.size + 1) 0 (by omega)).trans cp2
  have x3 := fun o1 o2 o3 o4 o5 o6 o7 => (hpast o1 o2 o3 o4 o5 o6 o7 (w1.heap.size + 1) 1 (by omega)).trans cp3
  have hq2 : w1.heap.size + 1 < w3.heap.size := by omega
  have hP13 : ProgAt w3 NoX (.slice a1 M.wantP.length c1) M.wantP :=
    (hP1.keep (Below.keepX ((((Below.refl _ _).alloc (Nat.le_refl _) _).alloc (by simp) _).trans (hb2.mono (by omega))))).keep (Below.keepX ((((Below.refl _ _).alloc (Nat.le_refl _) _).alloc (by simp) _).trans (hb3.mono (by omega))))
  have hb13 : Below w.heap.size w w3 := (hb1.trans ((((Below.refl w1.heap.size w1).alloc (Nat.le_refl _) _).alloc (by simp) _).trans (hb2.mono (by omega)) |>.mono hb1.size)).trans ((((Below.refl w2.heap.size w2).alloc (Nat.le_refl _) _).alloc (by simp) _).trans (hb3.mono (by omega)) |>.mono (by have := hb1.size; omega))
  have hz7 : (((((((w3.alloc (.cells #[.slice a3 0 c3] 25)).alloc (.cells #[.int .i64 20, .int .i64 17] 28)).alloc (.cells #[.string ⟨#[97]⟩] 9)).alloc (.cells #[.int .i64 4, .int .i64 0, .string ⟨#[120]⟩] 61)).alloc (.cells #[.int .i64 2, .string ⟨#[120]⟩, .string ⟨#[97]⟩, .string ⟨#[112]⟩, .slice none 0 0, .slice none 0 0, .slice none 0 0, .slice none 0 0, .int .i64 11, .string ⟨#[]⟩, .string ⟨#[]⟩, .string ⟨#[]⟩, .slice (some ⟨w3.heap.size + 1 + 1 + 1, 0, none⟩) 1 1, .slice none 0 0, .slice none 0 0, .slice none 0 0] 59)).alloc (.cells #[.string ⟨#[102]⟩, .slice (some ⟨w3.heap.size + 1 + 1, 0, none⟩) 1 1, .slice (some ⟨w3.heap.size + 1 + 1 + 1 + 1, 0, none⟩) 2 2] 56)).alloc (.cells #[.slice (some ⟨w3.heap.size + 1 + 1 + 1 + 1 + 1, 0, none⟩) 1 1] 25)).heap.size = w3.heap.size + 7 := by simp only [World.size_alloc]
  have hbW : Below w3.heap.size w3 (((((((w3.alloc (.cells #[.slice a3 0 c3] 25)).alloc (.cells #[.int .i64 20, .int .i64 17] 28)).alloc (.cells #[.string ⟨#[97]⟩] 9)).alloc (.cells #[.int .i64 4, .int .i64 0, .string ⟨#[120]⟩] 61)).alloc (.cells #[.int .i64 2, .string ⟨#[120]⟩, .string ⟨#[97]⟩, .string ⟨#[112]⟩, .slice none 0 0, .slice none 0 0, .slice none 0 0, .slice none 0 0, .int .i64 11, .string ⟨#[]⟩, .string ⟨#[]⟩, .string ⟨#[]⟩, .slice (some ⟨w3.heap.size + 1 + 1 + 1, 0, none⟩) 1 1, .slice none 0 0, .slice none 0 0, .slice none 0 0] 59)).alloc (.cells #[.string ⟨#[102]⟩, .slice (some ⟨w3.heap.size + 1 + 1, 0, none⟩) 1 1, .slice (some ⟨w3.heap.size + 1 + 1 + 1 + 1, 0, none⟩) 2 2] 56)).alloc (.cells #[.slice (some ⟨w3.heap.size + 1 + 1 + 1 + 1 + 1, 0, none⟩) 1 1] 25)) := by
    refine (((((((Below.refl _ _).alloc (Nat.le_refl _) _).alloc ?_ _).alloc ?_ _).alloc ?_ _).alloc ?_ _).alloc ?_ _).alloc ?_ _
    all_goals (simp only [World.size_alloc]; omega)
  have n2 : (((((((w3.alloc (.cells #[.slice a3 0 c3] 25)).alloc (.cells #[.int .i64 20, .int .i64 17] 28)).alloc (.cells #[.string ⟨#[97]⟩] 9)).alloc (.cells #[.int .i64 4, .int .i64 0, .string ⟨#[120]⟩] 61)).alloc (.cells #[.int .i64 2, .string ⟨#[120]⟩, .string ⟨#[97]⟩, .string ⟨#[112]⟩, .slice none 0 0, .slice none 0 0, .slice none 0 0, .slice none 0 0, .int .i64 11, .string ⟨#[]⟩, .string ⟨#[]⟩, .string ⟨#[]⟩, .slice (some ⟨w3.heap.size + 1 + 1 + 1, 0, none⟩) 1 1, .slice none 0 0, .slice none 0 0, .slice none 0 0] 59)).alloc (.cells #[.string ⟨#[102]⟩, .slice (some ⟨w3.heap.size + 1 + 1, 0, none⟩) 1 1, .slice (some ⟨w3.heap.size + 1 + 1 + 1 + 1, 0, none⟩) 2 2] 56)).alloc (.cells #[.slice (some ⟨w3.heap.size + 1 + 1 + 1 + 1 + 1, 0, none⟩) 1 1] 25)).heap[w3.heap.size + 1 + 1]? = some (.cells #[.string ⟨#[97]⟩] 9) := by
    repeat rw [Below.heap_alloc _ _ _ (by simp only [World.size_alloc]; omega)]
    have := heap_alloc_new ((w3.alloc (.cells #[.slice a3 0 c3] 25)).alloc (.cells #[.int .i64 20, .int .i64 17] 28)) (.cells #[.string ⟨#[97]⟩] 9)
    simp only [World.size_alloc] at this; exact this
  have n3 : (((((((w3.alloc (.cells #[.slice a3 0 c3] 25)).alloc (.cells #[.int .i64 20, .int .i64 17] 28)).alloc (.cells #[.string ⟨#[97]⟩] 9)).alloc (.cells #[.int .i64 4, .int .i64 0, .string ⟨#[120]⟩] 61)).alloc (.cells #[.int .i64 2, .string ⟨#[120]⟩, .string ⟨#[97]⟩, .string ⟨#[112]⟩, .slice none 0 0, .slice none 0 0, .slice none 0 0, .slice none 0 0, .int .i64 11, .string ⟨#[]⟩, .string ⟨#[]⟩, .string ⟨#[]⟩, .slice (some ⟨w3.heap.size + 1 + 1 + 1, 0, none⟩) 1 1, .slice none 0 0, .slice none 0 0, .slice none 0 0] 59)).alloc (.cells #[.string ⟨#[102]⟩, .slice (some ⟨w3.heap.size + 1 + 1, 0, none⟩) 1 1, .slice (some ⟨w3.heap.size + 1 + 1 + 1 + 1, 0, none⟩) 2 2] 56)).alloc (.cells #[.slice (some ⟨w3.heap.size + 1 + 1 + 1 + 1 + 1, 0, none⟩) 1 1] 25)).heap[w3.heap.size + 1 + 1 + 1]? = some (.cells #[.int .i64 4, .int .i64 0, .string ⟨#[120]⟩] 61) := by
    repeat rw [Below.heap_alloc _ _ _ (by simp only [World.size_alloc]; omega)]
    have := heap_alloc_new (((w3.alloc (.cells #[.slice a3 0 c3] 25)).alloc (.cells #[.int .i64 20, .int .i64 17] 28)).alloc (.cells #[.string ⟨#[97]⟩] 9)) (.cells #[.int .i64 4, .int .i64 0, .string ⟨#[120]⟩] 61)
    simp only [World.size_alloc] at this; exact this
  have n4 : (((((((w3.alloc (.cells #[.slice a3 0 c3] 25)).alloc (.cells #[.int .i64 20, .int .i64 17] 28)).alloc (.cells #[.string ⟨#[97]⟩] 9)).alloc (.cells #[.int .i64 4, .int .i64 0, .string ⟨#[120]⟩] 61)).alloc (.cells #[.int .i64 2, .string ⟨#[120]⟩, .string ⟨#[97]⟩, .string ⟨#[112]⟩, .slice none 0 0, .slice none 0 0, .slice none 0 0, .slice none 0 0, .int .i64 11, .string ⟨#[]⟩, .string ⟨#[]⟩, .string ⟨#[]⟩, .slice (some ⟨w3.heap.size + 1 + 1 + 1, 0, none⟩) 1 1, .slice none 0 0, .slice none 0 0, .slice none 0 0] 59)).alloc (.cells #[.string ⟨#[102]⟩, .slice (some ⟨w3.heap.size + 1 + 1, 0, none⟩) 1 1, .slice (some ⟨w3.heap.size + 1 + 1 + 1 + 1, 0, none⟩) 2 2] 56)).alloc (.cells #[.slice (some ⟨w3.heap.size + 1 + 1 + 1 + 1 + 1, 0, none⟩) 1 1] 25)).heap[w3.heap.size + 1 + 1 + 1 + 1]? = some (.cells #[.int .i64 2, .string ⟨#[120]⟩, .string ⟨#[97]⟩, .string ⟨#[112]⟩, .slice none 0 0, .slice none 0 0, .slice none 0 0, .slice none 0 0, .int .i64 11, .string ⟨#[]⟩, .string ⟨#[]⟩, .string ⟨#[]⟩, .slice (some ⟨w3.heap.size + 1 + 1 + 1, 0, none⟩) 1 1, .slice none 0 0, .slice none 0 0, .slice none 0 0] 59) := by
    repeat rw [Below.heap_alloc _ _ _ (by simp only [World.size_alloc]; omega)]
    have := heap_alloc_new ((((w3.alloc (.cells #[.slice a3 0 c3] 25)).alloc (.cells #[.int .i64 20, .int .i64 17] 28)).alloc (.cells #[.string ⟨#[97]⟩] 9)).alloc (.cells #[.int .i64 4, .int .i64 0, .string ⟨#[120]⟩] 61)) (.cells #[.int .i64 2, .string ⟨#[120]⟩, .string ⟨#[97]⟩, .string ⟨#[112]⟩, .slice none 0 0, .slice none 0 0, .slice none 0 0, .slice none 0 0, .int .i64 11, .string ⟨#[]⟩, .string ⟨#[]⟩, .string ⟨#[]⟩, .slice (some ⟨w3.heap.size + 1 + 1 + 1, 0, none⟩) 1 1, .slice none 0 0, .slice none 0 0, .slice none 0 0] 59)
    simp only [World.size_alloc] at this; exact this
  have n5 : (((((((w3.alloc (.cells #[.slice a3 0 c3] 25)).alloc (.cells #[.int .i64 20, .int .i64 17] 28)).alloc (.cells #[.string ⟨#[97]⟩] 9)).alloc (.cells #[.int .i64 4, .int .i64 0, .string ⟨#[120]⟩] 61)).alloc (.cells #[.int .i64 2, .string ⟨#[120]⟩, .string ⟨#[97]⟩, .string ⟨#[112]⟩, .slice none 0 0, .slice none 0 0, .slice none 0 0, .slice none 0 0, .int .i64 11, .string ⟨#[]⟩, .string ⟨#[]⟩, .string ⟨#[]⟩, .slice (some ⟨w3.heap.size + 1 + 1 + 1, 0, none⟩) 1 1, .slice none 0 0, .slice none 0 0, .slice none 0 0] 59)).alloc (.cells #[.string ⟨#[102]⟩, .slice (some ⟨w3.heap.size + 1 + 1, 0, none⟩) 1 1, .slice (some ⟨w3.heap.size + 1 + 1 + 1 + 1, 0, none⟩) 2 2] 56)).alloc (.cells #[.slice (some ⟨w3.heap.size + 1 + 1 + 1 + 1 + 1, 0, none⟩) 1 1] 25)).heap[w3.heap.size + 1 + 1 + 1 + 1 + 1]? = some (.cells #[.string ⟨#[102]⟩, .slice (some ⟨w3.heap.size + 1 + 1, 0, none⟩) 1 1, .slice (some ⟨w3.heap.size + 1 + 1 + 1 + 1, 0, none⟩) 2 2] 56) := by
    repeat rw [Below.heap_alloc _ _ _ (by simp only [World.size_alloc]; omega)]
    have := heap_alloc_new (((((w3.alloc (.cells #[.slice a3 0 c3] 25)).alloc (.cells #[.int .i64 20, .int .i64 17] 28)).alloc (.cells #[.string ⟨#[97]⟩] 9)).alloc (.cells #[.int .i64 4, .int .i64 0, .string ⟨#[120]⟩] 61)).alloc (.cells #[.int .i64 2, .string ⟨#[120]⟩, .string ⟨#[97]⟩, .string ⟨#[112]⟩, .slice none 0 0, .slice none 0 0, .slice none 0 0, .slice none 0 0, .int .i64 11, .string ⟨#[]⟩, .string ⟨#[]⟩, .string ⟨#[]⟩, .slice (some ⟨w3.heap.size + 1 + 1 + 1, 0, none⟩) 1 1, .slice none 0 0, .slice none 0 0, .slice none 0 0] 59)) (.cells #[.string ⟨#[102]⟩, .slice (some ⟨w3.heap.size + 1 + 1, 0, none⟩) 1 1, .slice (some ⟨w3.heap.size + 1 + 1 + 1 + 1, 0, none⟩) 2 2] 56)
    simp only [World.size_alloc] at this; exact this
  have n6 : (((((((w3.alloc (.cells #[.slice a3 0 c3] 25)).alloc (.cells #[.int .i64 20, .int .i64 17] 28)).alloc (.cells #[.string ⟨#[97]⟩] 9)).alloc (.cells #[.int .i64 4, .int .i64 0, .string ⟨#[120]⟩] 61)).alloc (.cells #[.int .i64 2, .string ⟨#[120]⟩, .string ⟨#[97]⟩, .string ⟨#[112]⟩, .slice none 0 0, .slice none 0 0, .slice none 0 0, .slice none 0 0, .int .i64 11, .string ⟨#[]⟩, .string ⟨#[]⟩, .string ⟨#[]⟩, .slice (some ⟨w3.heap.size + 1 + 1 + 1, 0, none⟩) 1 1, .slice none 0 0, .slice none 0 0, .slice none 0 0] 59)).alloc (.cells #[.string ⟨#[102]⟩, .slice (some ⟨w3.heap.size + 1 + 1, 0, none⟩) 1 1, .slice (some ⟨w3.heap.size + 1 + 1 + 1 + 1, 0, none⟩) 2 2] 56)).alloc (.cells #[.slice (some ⟨w3.heap.size + 1 + 1 + 1 + 1 + 1, 0, none⟩) 1 1] 25)).heap[w3.heap.size + 1 + 1 + 1 + 1 + 1 + 1]? = some (.cells #[.slice (some ⟨w3.heap.size + 1 + 1 + 1 + 1 + 1, 0, none⟩) 1 1] 25) := by
    have := heap_alloc_new ((((((w3.alloc (.cells #[.slice a3 0 c3] 25)).alloc (.cells #[.int .i64 20, .int .i64 17] 28)).alloc (.cells #[.string ⟨#[97]⟩] 9)).alloc (.cells #[.int .i64 4, .int .i64 0, .string ⟨#[120]⟩] 61)).alloc (.cells #[.int .i64 2, .string ⟨#[120]⟩, .string ⟨#[97]⟩, .string ⟨#[112]⟩, .slice none 0 0, .slice none 0 0, .slice none 0 0, .slice none 0 0, .int .i64 11, .string ⟨#[]⟩, .string ⟨#[]⟩, .string ⟨#[]⟩, .slice (some ⟨w3.heap.size + 1 + 1 + 1, 0, none⟩) 1 1, .slice none 0 0, .slice none 0 0, .slice none 0 0] 59)).alloc (.cells #[.string ⟨#[102]⟩, .slice (some ⟨w3.heap.size + 1 + 1, 0, none⟩) 1 1, .slice (some ⟨w3.heap.size + 1 + 1 + 1 + 1, 0, none⟩) 2 2] 56)) (.cells #[.slice (some ⟨w3.heap.size + 1 + 1 + 1 + 1 + 1, 0, none⟩) 1 1] 25)
    simp only [World.size_alloc] at this; exact this
  have n1 : (((((((w3.alloc (.cells #[.slice a3 0 c3] 25)).alloc (.cells #[.int .i64 20, .int .i64 17] 28)).alloc (.cells #[.string ⟨#[97]⟩] 9)).alloc (.cells #[.int .i64 4, .int .i64 0, .string ⟨#[120]⟩] 61)).alloc (.cells #[.int .i64 2, .string ⟨#[120]⟩, .string ⟨#[97]⟩, .string ⟨#[112]⟩, .slice none 0 0, .slice none 0 0, .slice none 0 0, .slice none 0 0, .int .i64 11, .string ⟨#[]⟩, .string ⟨#[]⟩, .string ⟨#[]⟩, .slice (some ⟨w3.heap.size + 1 + 1 + 1, 0, none⟩) 1 1, .slice none 0 0, .slice none 0 0, .slice none 0 0] 59)).alloc (.cells #[.string ⟨#[102]⟩, .slice (some ⟨w3.heap.size + 1 + 1, 0, none⟩) 1 1, .slice (some ⟨w3.heap.size + 1 + 1 + 1 + 1, 0, none⟩) 2 2] 56)).alloc (.cells #[.slice (some ⟨w3.heap.size + 1 + 1 + 1 + 1 + 1, 0, none⟩) 1 1] 25)).heap[w3.heap.size + 1]? = some (.cells #[.int .i64 20, .int .i64 17] 28) := by
    repeat rw [Below.heap_alloc _ _ _ (by simp only [World.size_alloc]; omega)]
    have := heap_alloc_new (w3.alloc (.cells #[.slice a3 0 c3] 25)) (.cells #[.int .i64 20, .int .i64 17] 28)
    simp only [World.size_alloc] at this; exact this
  have hPw : ProgAt (((((((w3.alloc (.cells #[.slice a3 0 c3] 25)).alloc (.cells #[.int .i64 20, .int .i64 17] 28)).alloc (.cells #[.string ⟨#[97]⟩] 9)).alloc (.cells #[.int .i64 4, .int .i64 0, .string ⟨#[120]⟩] 61)).alloc (.cells #[.int .i64 2, .string ⟨#[120]⟩, .string ⟨#[97]⟩, .string ⟨#[112]⟩, .slice none 0 0, .slice none 0 0, .slice none 0 0, .slice none 0 0, .int .i64 11, .string ⟨#[]⟩, .string ⟨#[]⟩, .string ⟨#[]⟩, .slice (some ⟨w3.heap.size + 1 + 1 + 1, 0, none⟩) 1 1, .slice none 0 0, .slice none 0 0, .slice none 0 0] 59)).alloc (.cells #[.string ⟨#[102]⟩, .slice (some ⟨w3.heap.size + 1 + 1, 0, none⟩) 1 1, .slice (some ⟨w3.heap.size + 1 + 1 + 1 + 1, 0, none⟩) 2 2] 56)).alloc (.cells #[.slice (some ⟨w3.heap.size + 1 + 1 + 1 + 1 + 1, 0, none⟩) 1 1] 25)) NoX (.slice (some ⟨w3.heap.size + 1 + 1 + 1 + 1 + 1, 0, none⟩) 1 1) M.wantP := by
    refine ⟨_, slAt_heap [.string ⟨#[102]⟩, .slice (some ⟨w3.heap.size + 1 + 1, 0, none⟩) 1 1, .slice (some ⟨w3.heap.size + 1 + 1 + 1 + 1, 0, none⟩) 2 2] n5 (by omega), ?_⟩
    refine ⟨_, _, [], rfl, slAt_heap [.string ⟨#[97]⟩] n2 (by omega), ?_, rfl⟩
    refine ⟨[.int .i64 2, .string ⟨#[120]⟩, .string ⟨#[97]⟩, .string ⟨#[112]⟩, .slice none 0 0, .slice none 0 0, .slice none 0 0, .slice none 0 0, .int .i64 11, .string ⟨#[]⟩, .string ⟨#[]⟩, .string ⟨#[]⟩, .slice (some ⟨w3.heap.size + 1 + 1 + 1, 0, none⟩) 1 1, .slice none 0 0, .slice none 0 0, .slice none 0 0], slAt_heap _ n4 (by omega), ?_⟩
    refine ⟨_, _, _, _, [], [], _, rfl, OpsAt.nil _ _, StrsAt.nil _ _, ⟨SlAt.nil _ _, rfl⟩, ⟨SlAt.nil _ _, rfl⟩, ?_⟩
    exact ⟨_, _, _, _, [], [], _, rfl, slAt_heap [.int .i64 4, .int .i64 0, .string ⟨#[120]⟩] n3 (by omega), StrsAt.nil _ _, ⟨SlAt.nil _ _, rfl⟩, ⟨SlAt.nil _ _, rfl⟩, rfl⟩
  have hPp := hP13.keep (Below.keepX hbW)
  have m1 := (hbW.block w1.heap.size hq1).trans p1
  have m3 := (hbW.block (w2.heap.size + 1) (by omega)).trans p3
  have m2 := (hbW.block (w1.heap.size + 1) hq2).trans p2
  have hbw : Below w.heap.size w (((((((w3.alloc (.cells #[.slice a3 0 c3] 25)).alloc (.cells #[.int .i64 20, .int .i64 17] 28)).alloc (.cells #[.string ⟨#[97]⟩] 9)).alloc (.cells #[.int .i64 4, .int .i64 0, .string ⟨#[120]⟩] 61)).alloc (.cells #[.int .i64 2, .string ⟨#[120]⟩, .string ⟨#[97]⟩, .string ⟨#[112]⟩, .slice none 0 0, .slice none 0 0, .slice none 0 0, .slice none 0 0, .int .i64 11, .string ⟨#[]⟩, .string ⟨#[]⟩, .string ⟨#[]⟩, .slice (some ⟨w3.heap.size + 1 + 1 + 1, 0, none⟩) 1 1, .slice none 0 0, .slice none 0 0, .slice none 0 0] 59)).alloc (.cells #[.string ⟨#[102]⟩, .slice (some ⟨w3.heap.size + 1 + 1, 0, none⟩) 1 1, .slice (some ⟨w3.heap.size + 1 + 1 + 1 + 1, 0, none⟩) 2 2] 56)).alloc (.cells #[.slice (some ⟨w3.heap.size + 1 + 1 + 1 + 1 + 1, 0, none⟩) 1 1] 25)) := hb13.trans (hbW.mono hb13.size)
  have HZ7 := hid hz7
  clear hz7 hpast
  go_wp2_with fail
  generalize hWW : (((((((w3.alloc (.cells #[.slice a3 0 c3] 25)).alloc (.cells #[.int .i64 20, .int .i64 17] 28)).alloc (.cells #[.string ⟨#[97]⟩] 9)).alloc (.cells #[.int .i64 4, .int .i64 0, .string ⟨#[120]⟩] 61)).alloc (.cells #[.int .i64 2, .string ⟨#[120]⟩, .string ⟨#[97]⟩, .string ⟨#[112]⟩, .slice none 0 0, .slice none 0 0, .slice none 0 0, .slice none 0 0, .int .i64 11, .string ⟨#[]⟩, .string ⟨#[]⟩, .string ⟨#[]⟩, .slice (some ⟨w3.heap.size + 1 + 1 + 1, 0, none⟩) 1 1, .slice none 0 0, .slice none 0 0, .slice none 0 0] 59)).alloc (.cells #[.string ⟨#[102]⟩, .slice (some ⟨w3.heap.size + 1 + 1, 0, none⟩) 1 1, .slice (some ⟨w3.heap.size + 1 + 1 + 1 + 1, 0, none⟩) 2 2] 56)).alloc (.cells #[.slice (some ⟨w3.heap.size + 1 + 1 + 1 + 1 + 1, 0, none⟩) 1 1] 25)) = W at hbW n1 n2 n3 n4 n5 n6 hPw hPp m1 m2 m3 hbw HZ7 ⊢
  clear hWW
  have u1 := cell0 m1
  have u2 := cell0 n6
  have u3 : W.cell? ⟨w1.heap.size + 1, 0, none⟩ = some (.int .i64 0) := by rw [Lib.cell_of_heap m2]; rfl
  have u4 : W.cell? ⟨w1.heap.size + 1, 1, none⟩ = some (.int .i64 0) := by rw [Lib.cell_of_heap m2]; rfl
  refine (rsame_eq _ _ _ M.wantP hPp hPw).mono ?_
  rintro e w5 ⟨rfl, hb5⟩
  have hz7 := HZ7.out
  have k1 := cell0 ((hb5.block w1.heap.size (by omega)).trans m1)
  have k2 := cell0 ((hb5.block _ (by omega)).trans n6)
  go_wp2_with fail
  refine (same_any _ _ _ M.wantP M.wantP (hPp.keep (Below.keepX hb5)) (hPw.keep (Below.keepX hb5))).mono ?_
  rintro e w6 ⟨rfl, hb6⟩
  have hB6 : Below W.heap.size W w6 := hb5.trans (hb6.mono hb5.size)
  have k3 := cell0 ((hB6.block w1.heap.size (by omega)).trans m1)
  have hdt : decide (M.wantP = M.wantP) = true := decide_eq_true rfl
  rw [hdt]
  go_wp2_with fail
  refine (same_any _ _ _ M.wantP [] (hPp.keep (Below.keepX hB6)) ⟨[], SlAt.nil _ _, rfl⟩).mono ?_
  rintro e w7 ⟨rfl, hb7⟩
  have hB7 : Below W.heap.size W w7 := hB6.trans (hb7.mono hB6.size)
  have hdf : decide (M.wantP = []) = false := decide_eq_false (by simp [M.wantP])
  rw [hdf]
  have j3 := (hB7.block (w2.heap.size + 1) (by omega)).trans m3
  have j1 := (hB7.block (w3.heap.size + 1) (by omega)).trans n1
  have d1 : w7.cell? ⟨w2.heap.size + 1, 0, none⟩ = some (.int .i64 20) := by rw [Lib.cell_of_heap j3]; rfl
  have d2 : w7.cell? ⟨w2.heap.size + 1, 1, none⟩ = some (.int .i64 7) := by rw [Lib.cell_of_heap j3]; rfl
  have d3 : w7.cell? ⟨w3.heap.size + 1, 0, none⟩ = some (.int .i64 20) := by rw [Lib.cell_of_heap j1]; rfl
  have d4 : w7.cell? ⟨w3.heap.size + 1, 1, none⟩ = some (.int .i64 17) := by rw [Lib.cell_of_heap j1]; rfl
  go_wp2_with fail
  refine (keyword_any M.kProto _).mono ?_
  rintro e w' ⟨rfl, rfl⟩
  rw [show M.kw M.kProto = true by decide]
  go_wp2_with fail
  refine (keyword_any (M.ch 120) _).mono ?_
  rintro e w' ⟨rfl, rfl⟩
  rw [show M.kw (M.ch 120) = false by decide]
  go_wp2_with fail
  go_ret
  exact ⟨rfl, hbw.trans (hB7.mono (by have := hb13.size; omega))⟩
end Go.Proofs.YtkonkdhoakcmdaaGreatDoor
