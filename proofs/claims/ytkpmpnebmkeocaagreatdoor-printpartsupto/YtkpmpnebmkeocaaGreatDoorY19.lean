/-
  The walk of the law PrintParts: a program of two programs' functions is printed as the one, and then the other one; a function's text has its statements' texts in it, in order. Conditions: what the programs are in memory; that operands' numbers are some; that the table of powers lies as it should; bounds.
-/
import Derived.Test.YtkpmpnebmkeocaaGreatDoorY17
import Derived.Test.YtkpmpnebmkeocaaGreatDoorY18
import Derived.Test.YtkpmpnebmkeocaaGreatDoorK2
set_option linter.unusedVariables false
set_option linter.unusedSimpArgs false
namespace Go.Proofs.YtkpmpnebmkeocaaGreatDoor
open Go.RowKit
theorem size_of (s : ByteArray) : s.data.toList.length = s.size := by simp
theorem head_eq {nm : ByteArray} {r t : List UInt8} (h : t = headT nm ++ r) : ((⟨#[102, 117, 110, 32]⟩ ++ nm ++ ⟨#[32, 40, 32, 41, 32, 123, 32]⟩ : ByteArray)).data.toList ++ r = t := by
  rw [h]; simp [headT]
theorem nm_pos {s : ByteArray} (h : M.nm s = true) : 1 ≤ s.size := by
  by_cases h0 : s.size = 0
  · have e : s = ⟨#[]⟩ := M.bytes_ext (List.length_eq_zero_iff.1 (by rw [size_of]; exact h0))
    subst e
    exact absurd h (by decide)
  · omega
theorem pre_eq {P T : ByteArray} {rest : List UInt8} (h : P.data.toList = T.data.toList ++ rest) : ((P.extract 0 T.size).toList == T.toList) = true := by
  rw [beq_list]
  refine decide_eq_true (M.bytes_ext ?_)
  rw [ByteArray.data_extract, Array.toList_extract, h, ← size_of]
  simp [List.extract]
namespace PrintParts
set_option maxRecDepth 8000 in
set_option maxHeartbeats 4000000 in
theorem walk (w : World) (v u : Value) (p q : List M.Fn) (hv : ProgAt w NoX v p) (hu : ProgAt w NoX u q) (hN : ∀ f ∈ p, f.body.sz ≤ 4294967296) (hM : ∀ f ∈ q, f.body.sz ≤ 4294967296) (hr : RngP p) (hs : RngP q) (htab : TabW w) (hp : p.length ≤ 1048576) (hq : q.length ≤ 1048576) :
    Calls Tryz.prog 7 #[.agg #[v], .agg #[u]] w fun e w' => e = .returned (.bool true) ∧ Below w.heap.size w w' := by
  obtain ⟨va, vc, rfl⟩ : ∃ a c, v = .slice a p.length c := by obtain ⟨_, h1, _⟩ := hv; exact SlAt.form h1
  obtain ⟨ua, uc, rfl⟩ : ∃ a c, u = .slice a q.length c := by obtain ⟨_, h1, _⟩ := hu; exact SlAt.form h1
  have hb0 : Below w.heap.size w ((w.alloc (.cells #[.slice va p.length vc] 24)).alloc (.cells #[.slice ua q.length uc] 24)) := ((Below.refl _ w).alloc (Nat.le_refl _) _).alloc (by simp) _
  have bx := heap_al (o' := .cells #[.slice ua q.length uc] 24) (heap_alloc_new w (.cells #[.slice va p.length vc] 24))
  have by' := heap_alloc_new (w.alloc (.cells #[.slice va p.length vc] 24)) (.cells #[.slice ua q.length uc] 24)
  rw [World.size_alloc] at by'
  have hv0 := hv.keep (Below.keepX hb0)
  have hu0 := hu.keep (Below.keepX hb0)
  have ht0 := htab.below hb0
  have hz5 : w.heap.size + 1 < ((w.alloc (.cells #[.slice va p.length vc] 24)).alloc (.cells #[.slice ua q.length uc] 24)).heap.size := by simp
  go_enter Tryz.func7, Tryz.ntmps7
  go_wp2_with fail
  generalize (w.alloc (.cells #[.slice va p.length vc] 24)).alloc (.cells #[.slice ua q.length uc] 24) = w5 at *
  obtain ⟨cs1, sl1, fn1⟩ := id hv0
  obtain ⟨cs2, sl2, fn2⟩ := id hu0
  have n1 := fn1.cells
  have n2 := fn2.cells
  have hq1 : w.heap.size < w5.heap.size := by omega
  have SL1 : Hid (∀ W : World, Below w5.heap.size w5 W → SlAt W NoX (.slice va p.length vc) p.length cs1) := fun W h => sl1.keep (Below.keepX h)
  have SL2 : Hid (∀ W : World, Below w5.heap.size w5 W → SlAt W NoX (.slice ua q.length uc) q.length cs2) := fun W h => sl2.keep (Below.keepX h)
  have KS : Hid (∀ W : World, Below w5.heap.size w5 W → W.cell? ⟨w.heap.size, 0, none⟩ = some (.slice va p.length vc) ∧ W.cell? ⟨w.heap.size + 1, 0, none⟩ = some (.slice ua q.length uc)) := fun W h => ⟨cell0 (kept h bx), cell0 (kept h by')⟩
  have U1 : Hid (Below w5.heap.size w5 (w5.alloc (.cells #[] 34)).drew) := ((Below.refl _ _).alloc (Nat.le_refl _) _).drew
  have U2 : Hid (Below w5.heap.size w5 ((w5.alloc (.cells #[] 34)).alloc zero1).drew) := (((Below.refl _ _).alloc (Nat.le_refl _) _).alloc (by simp) _).drew
  have U3 : Hid (Below w5.heap.size w5 ((w5.alloc zero1).alloc (.cells #[] 34)).drew) := (((Below.refl _ _).alloc (Nat.le_refl _) _).alloc (by simp) _).drew
  have U4 : Hid (Below w5.heap.size w5 (w5.alloc zero1).drew) := ((Below.refl _ _).alloc (Nat.le_refl _) _).drew
  have O1 : Hid ((w5.alloc (.cells #[] 34)).drew.ownsRow w5.heap.size 34 3 (.slice (some ⟨w5.heap.size, 0, none⟩) 0 0) 0 []) := World.ownsRow_made w5 #[] 0 (Nat.le_refl _) (by unfold maxLen; omega) (by simp)
  have O2 : Hid (((w5.alloc (.cells #[] 34)).alloc zero1).drew.ownsRow w5.heap.size 34 3 (.slice (some ⟨w5.heap.size, 0, none⟩) 0 0) 0 []) := (World.ownsRow_made w5 #[] 0 (Nat.le_refl _) (by unfold maxLen; omega) (by simp)).alloc _
  have O3 : Hid (((w5.alloc zero1).alloc (.cells #[] 34)).drew.ownsRow w5.heap.size 34 3 (.slice (some ⟨w5.heap.size + 1, 0, none⟩) 0 0) 0 []) := by
    have := World.ownsRow_made (base := w5.heap.size) (e := 34) (size := 3) (w5.alloc zero1) #[] 0 (by simp) (by unfold maxLen; omega) (by simp)
    simp only [World.size_alloc] at this
    exact this
  have Z2 : Hid (((w5.alloc (.cells #[] 34)).alloc zero1).drew.heap[w5.heap.size + 1]? = some zero1) := by
    have := heap_alloc_new (w5.alloc (.cells #[] 34)) zero1
    simp only [World.size_alloc] at this; exact this
  have Z3 : Hid (((w5.alloc zero1).alloc (.cells #[] 34)).drew.heap[w5.heap.size]? = some zero1) := (Below.heap_alloc _ _ _ (by simp)).trans (heap_alloc_new w5 zero1)
  clear sl1 sl2
  go_region_held_law (fun W => W.cell? ⟨w.heap.size, 0, none⟩ = some (.slice va p.length vc) ∧ W.cell? ⟨w.heap.size + 1, 0, none⟩ = some (.slice ua q.length uc))
    (first
      | exact KS.out _ (Below.refl _ _).drew
      | exact KS.out _ U1.out
      | exact KS.out _ U2.out
      | exact KS.out _ U3.out
      | exact KS.out _ U4.out
      | exact KS.out _ B7
      | exact KS.out _ (B7.alloc B7.size _)
      | exact KS.out _ (B7.setCell B6.size _)
      | exact KS.out _ (B7.setCell (Nat.le_refl _) _)
      | exact KS.out _ (B7.setCell (Nat.le_succ _) _)
      | exact KS.out _ B6
      | exact KS.out _ (B6.alloc B6.size _)
      | go_keep)
    (first
      | (refine step_append_fns0 (by rfl) _ _ (by rfl) w5.heap.size _ (by simp only [Act.eval]; simp; done) O1.out _ _ _ (by rfl) (SL1.out _ U1.out) n1.1 n1.2 (by omega) U1.out.size ?_; intro a6 cap6 w6 hown6 hg6; have B6 : Below w5.heap.size w5 w6 := U1.out.grown hg6 U1.out.size (fun k hk => by simp [Value.ownBlock] at hk; omega); have G6 := hid hg6; clear hg6)
      | (refine step_append_fns0 (by rfl) _ _ (by rfl) w5.heap.size _ (by simp only [Act.eval]; simp; done) O2.out _ _ _ (by rfl) (SL1.out _ U2.out) n1.1 n1.2 (by omega) U2.out.size ?_; intro a6 cap6 w6 hown6 hg6; have B6 : Below w5.heap.size w5 w6 := U2.out.grown hg6 U2.out.size (fun k hk => by simp [Value.ownBlock] at hk; omega); have bg6 : w6.heap[w5.heap.size + 1]? = some zero1 := (hg6.block _ (by simp) (by simp [Value.ownBlock])).trans Z2.out; have G6 := hid hg6; clear hg6)
      | (refine step_append_fns0 (by rfl) _ _ (by rfl) w5.heap.size _ (by simp only [Act.eval]; simp; done) O3.out _ _ _ (by rfl) (SL1.out _ U3.out) n1.1 n1.2 (by omega) U3.out.size ?_; intro a6 cap6 w6 hown6 hg6; have B6 : Below w5.heap.size w5 w6 := U3.out.grown hg6 U3.out.size (fun k hk => by simp [Value.ownBlock] at hk; omega); have bg6 : w6.heap[w5.heap.size]? = some zero1 := (hg6.block _ (by simp; omega) (by simp [Value.ownBlock])).trans Z3.out; have G6 := hid hg6; clear hg6)
      | (refine step_append_fns (by rfl) _ _ (by rfl) w5.heap.size _ _ _ (by rfl) (hown6) _ _ _ (by rfl) (SL2.out _ (B6)) n2.1 n2.2 (by omega) (B6).size ?_; intro a7 cap7 w7 hown7 hg7; have B7 : Below w5.heap.size w5 w7 := (B6).grown hg7 (B6).size (fun k hk => (hown6.lt k hk).1); have bg7 := (hg7.block _ (Array.getElem?_eq_some_iff.1 bg6).1 (Ne.symm (fown_ne hown6 bg6))).trans bg6; have cz7 := cell0 bg7; have fz7 := Lib.frozen_of_heap bg7 0; have lt7 := (Array.getElem?_eq_some_iff.1 bg7).1; have G7 := hid hg7; clear hg7)
      | (refine step_append_fns (by rfl) _ _ (by rfl) w5.heap.size _ _ _ (by rfl) (hown6) _ _ _ (by rfl) (SL2.out _ (B6)) n2.1 n2.2 (by omega) (B6).size ?_; intro a7 cap7 w7 hown7 hg7; have B7 : Below w5.heap.size w5 w7 := (B6).grown hg7 (B6).size (fun k hk => (hown6.lt k hk).1); have G7 := hid hg7; clear hg7)
      | (refine step_append_fns (by rfl) _ _ (by rfl) w5.heap.size _ _ _ (by rfl) (hown6.alloc _) _ _ _ (by rfl) (SL2.out _ (B6.alloc B6.size _)) n2.1 n2.2 (by omega) (B6.alloc B6.size _).size ?_; intro a7 cap7 w7 hown7 hg7; have B7 : Below w5.heap.size w5 w7 := (B6.alloc B6.size _).grown hg7 (B6.alloc B6.size _).size (fun k hk => (hown6.lt k hk).1); have bg7 : w7.heap[w6.heap.size]? = some zero1 := (hg7.block _ (by simp) (fun e => by have := (hown6.lt w6.heap.size e.symm).2; omega)).trans (heap_alloc_new w6 _); have cz7 := cell0 bg7; have fz7 := Lib.frozen_of_heap bg7 0; have lt7 := (Array.getElem?_eq_some_iff.1 bg7).1; have G7 := hid hg7; clear hg7))
  all_goals
    first
    | (have B8 : Below w5.heap.size w5 (w7.setCell ⟨w6.heap.size, 0, none⟩ (.slice a7 (p.length + q.length) cap7)) := B7.setCell (p := ⟨w6.heap.size, 0, none⟩) (B6.size) _
       have N8 : (w7.setCell ⟨w6.heap.size, 0, none⟩ (.slice a7 (p.length + q.length) cap7)).heap[w6.heap.size]? = some (.cells #[(.slice a7 (p.length + q.length) cap7)] 24 (0, 0)) := heap_setCell_same _ _ _ _ _ _ bg7
       have O8 := fown_set hown7 bg7 (.slice a7 (p.length + q.length) cap7)
       generalize w7.setCell ⟨w6.heap.size, 0, none⟩ (.slice a7 (p.length + q.length) cap7) = w8 at B8 N8 O8 ⊢
       generalize w6.heap.size = g at N8 ⊢)
    | (have B8 : Below w5.heap.size w5 (w7.setCell ⟨w5.heap.size + 1, 0, none⟩ (.slice a7 (p.length + q.length) cap7)) := B7.setCell (p := ⟨w5.heap.size + 1, 0, none⟩) (Nat.le_succ _) _
       have N8 : (w7.setCell ⟨w5.heap.size + 1, 0, none⟩ (.slice a7 (p.length + q.length) cap7)).heap[w5.heap.size + 1]? = some (.cells #[(.slice a7 (p.length + q.length) cap7)] 24 (0, 0)) := heap_setCell_same _ _ _ _ _ _ bg7
       have O8 := fown_set hown7 bg7 (.slice a7 (p.length + q.length) cap7)
       generalize w7.setCell ⟨w5.heap.size + 1, 0, none⟩ (.slice a7 (p.length + q.length) cap7) = w8 at B8 N8 O8 ⊢
       generalize w5.heap.size + 1 = g at N8 ⊢)
    | (have B8 : Below w5.heap.size w5 (w7.setCell ⟨w5.heap.size, 0, none⟩ (.slice a7 (p.length + q.length) cap7)) := B7.setCell (p := ⟨w5.heap.size, 0, none⟩) (Nat.le_refl _) _
       have N8 : (w7.setCell ⟨w5.heap.size, 0, none⟩ (.slice a7 (p.length + q.length) cap7)).heap[w5.heap.size]? = some (.cells #[(.slice a7 (p.length + q.length) cap7)] 24 (0, 0)) := heap_setCell_same _ _ _ _ _ _ bg7
       have O8 := fown_set hown7 bg7 (.slice a7 (p.length + q.length) cap7)
       generalize w7.setCell ⟨w5.heap.size, 0, none⟩ (.slice a7 (p.length + q.length) cap7) = w8 at B8 N8 O8 ⊢
       generalize w5.heap.size = g at N8 ⊢)
    | (have B8 : Below w5.heap.size w5 (w7.alloc (.cells #[(.slice a7 (p.length + q.length) cap7)] 24)) := B7.alloc B7.size _
       have N8 : (w7.alloc (.cells #[(.slice a7 (p.length + q.length) cap7)] 24)).heap[w7.heap.size]? = some (.cells #[(.slice a7 (p.length + q.length) cap7)] 24 (0, 0)) := heap_alloc_new w7 _
       have O8 := hown7.alloc (.cells #[(.slice a7 (p.length + q.length) cap7)] 24)
       generalize w7.alloc (.cells #[(.slice a7 (p.length + q.length) cap7)] 24) = w8 at B8 N8 O8 ⊢
       generalize w7.heap.size = g at N8 ⊢)
    have Q8 := prog_new B8 fn1 fn2 O8 (by omega)
    have bx8 := kept B8 bx
    have by8 := kept B8 by'
    have hv8 := hv0.keep (Below.keepX B8)
    have hu8 := hu0.keep (Below.keepX B8)
    have ht8 := ht0.below B8
    have C8 := hb0.trans (B8.mono hb0.size)
    have c8 := cell0 N8
    clear KS U1 U2 U3 U4 O1 O2 O3 Z2 Z3 SL1 SL2 n1 n2 hown6 hown7 G6 G7 O8 B7 B6
    have hrb : RngP (p ++ q) := fun f hf => (List.mem_append.1 hf).elim (hr f) (hs f)
    have hNb : ∀ f ∈ p ++ q, f.body.sz ≤ 4294967296 := fun f hf => (List.mem_append.1 hf).elim (hN f) (hM f)
    go_wp2_with (go_at_call 9; refine stopHere ?_)
    refine stopAt ?_
    refine (rbigP_any w8 _ (p ++ q) Q8 hNb).mono ?_
    rintro e w9 ⟨⟨big, rfl⟩, hb9⟩
    have C9 := C8.trans (hb9.mono C8.size)
    have bx9 := kept hb9 bx8
    have by9 := kept hb9 by8
    have N9 := kept hb9 N8
    have hv9 := hv8.keep (Below.keepX hb9)
    have hu9 := hu8.keep (Below.keepX hb9)
    have Q9 := Q8.keep (Below.keepX hb9)
    have ht9 := ht8.below hb9
    clear c8
    have c9 := cell0 N9
    cases big with
    | true =>
      go_wp2_with (go_at_call 10; refine stopHere ?_)
      refine stopAt ?_
      refine (fixed_any _ ht9).mono ?_
      rintro e w10 ⟨rfl, hb10⟩
      go_wp2_with fail
      go_ret
      exact ⟨rfl, C9.trans (hb10.mono C9.size)⟩
    | false =>
      go_wp2_with (go_at_call 11; refine stopHere ?_)
      refine stopAt ?_
      refine (pmay_any w9 _ (p ++ q) Q9 hrb ht9).mono ?_
      rintro e w10 ⟨rfl, hb10⟩
      have C10 := C9.trans (hb10.mono C9.size)
      have bx10 := kept hb10 bx9
      have by10 := kept hb10 by9
      have N10 := kept hb10 N9
      have hv10 := hv9.keep (Below.keepX hb10)
      have hu10 := hu9.keep (Below.keepX hb10)
      have Q10 := Q9.keep (Below.keepX hb10)
      have ht10 := ht9.below hb10
      clear c9
      cases hpb : prB (p ++ q) with
      | false =>
        go_wp2_with (go_at_call 10; refine stopHere ?_)
        refine stopAt ?_
        refine (fixed_any _ ht10).mono ?_
        rintro e w11 ⟨rfl, hb11⟩
        go_wp2_with fail
        go_ret
        exact ⟨rfl, C10.trans (hb11.mono C10.size)⟩
      | true =>
        have c10 := cell0 bx10
        obtain ⟨hpp, hqq, hTT⟩ := parts_left hpb
        obtain ⟨hrp, hlp, hTp⟩ := prt_text hpp
        have HE := hid hTT
        have HP := hid hTp
        clear hTT hTp
        go_wp2_with fail
        go_loopw [6, 7] (fun s i wr => Below w10.heap.size w10 wr ∧ ∃ (j : Nat) (T : ByteArray) (rest : List UInt8), i = .int .i64 j ∧ s = .string T ∧ Hid (T.data.toList ++ rest = M.text p) ∧ (j = 0 ∧ T = ⟨#[]⟩ ∨ j = 1)) (fun _ i _ => 1 - (intOf i).toNat)
        case atStart => exact ⟨Below.refl _ _, 0, ⟨#[]⟩, M.text p, rfl, rfl, rfl, .inl ⟨rfl, rfl⟩⟩
        case round =>
          obtain ⟨hbr, j, T, rest, rfl, rfl, HR, hj⟩ := hrel
          have bxr := kept hbr bx10
          have cr := cell0 bxr
          clear c10
          have hcase : (j = 0 ∧ T = ⟨#[]⟩ ∧ ∃ f p', p = f :: p') ∨ (¬ (j : Int) < (p.length : Int)) ∨ ((j : Int) < (p.length : Int) ∧ ¬ (j : Int) < 1) := by
            rcases hj with ⟨rfl, rfl⟩ | rfl
            · cases p with
              | nil => exact .inr (.inl (by simp))
              | cons f p' => exact .inl ⟨rfl, rfl, f, p', rfl⟩
            · by_cases h1 : ((1 : Nat) : Int) < (p.length : Int)
              · exact .inr (.inr ⟨h1, by decide⟩)
              · exact .inr (.inl h1)
          clear hj
          rcases hcase with ⟨rfl, rfl, f, p', hpe⟩ | hji | ⟨hji, hj1⟩
          · have hji : (0 : Int) < (p.length : Int) := by rw [hpe]; simp
            obtain ⟨cs, sl', row'⟩ := hv10.keep (Below.keepX hbr)
            have hrf : RngT f.body := hr f (by rw [hpe]; simp)
            have hrp' := hrp
            rw [hpe] at row' hrp'
            have rfn := hrp'.fns f (by simp)
            have hcn : M.cnt f.body ≤ 2000 := by
              have := hrp'.cnt
              simp only [M.cntP] at this
              omega
            have HX := hid hpe
            clear hpe hrp'
            obtain ⟨vp1, vb1, rest1, e1, gP1, gB1, _⟩ := row'
            have g1 := sl'.2
            obtain ⟨a', cap', e', g1⟩ := g1
            simp only [Value.slice.injEq, true_and] at e'
            obtain ⟨rfl, rfl⟩ := e'
            rcases g1 with ⟨g1, _⟩ | ⟨b1, o1, rfl, hlt1, _, hc1⟩
            · omega
            obtain ⟨f0, f1, f2, fr⟩ := three_cells (j := 0) hc1 (by simpa using e1)
            simp only [Nat.zero_mul, Nat.add_zero] at f0 f1 f2
            obtain ⟨q3, m3, rfl⟩ := SlAt.form gP1
            obtain ⟨q5, m5, rfl⟩ := StmAt.form gB1
            have hb8 : Below wr.heap.size wr (wr.alloc (.cells #[.string f.name, .slice q3 f.ps.length m3, .slice q5 f.body.len m5] 34)) := (Below.refl _ _).alloc (Nat.le_refl _) _
            have N12 := heap_alloc_new wr (.cells #[.string f.name, .slice q3 f.ps.length m3, .slice q5 f.body.len m5] 34)
            have gB8 := gB1.keep (Below.keepX hb8)
            have HB := hid hb8
            by_cases hps : 0 < (f.ps.length : Int)
            · go_wp2_with fail
              exact ⟨⟨hbr.trans (HB.out.mono hbr.size), 1, ⟨#[]⟩, M.text p, rfl, rfl, rfl, .inr rfl⟩, by simp [intOf]⟩
            · have HH : Hid (M.text p = headT f.name ++ (M.bytesB (M.laidTr f.body) ++ ([125, 10] ++ M.text p'))) := by unfold Hid; rw [HX.out]; exact text_head rfn (List.length_eq_zero_iff.1 (by omega))
              have hnm : f.name.size ≤ 65536 := by
                have := congrArg List.length HH.out
                simp only [List.length_append, headT, size_of] at this
                omega
              have hnm1 : 1 ≤ f.name.size := nm_pos rfn.1
              have HN := hid N12
              have HG := hid gB8
              clear N12 gB8 hb8
              go_wp2_with fail
              obtain ⟨w12, hw12⟩ : ∃ w12, w12 = wr.alloc (.cells #[.string f.name, .slice q3 f.ps.length m3, .slice q5 f.body.len m5] 34) := ⟨_, rfl⟩
              rw [← hw12]
              unfold Hid at HN HG HB
              rw [← hw12] at HN HG HB
              clear hw12
              obtain ⟨csb, slb, rowb⟩ := HG
              have hbl : f.body.len ≤ 4398046511104 := slb.1
              go_loopw [6, 9] (fun s k wk => ∃ (n : Nat) (t : M.Tr) (T : ByteArray), k = .int .i64 n ∧ n + t.len = f.body.len ∧ s = .string T ∧ Hid (T.data.toList ++ (M.bytesB (M.laidTr t) ++ ([125, 10] ++ M.text p')) = M.text p) ∧ (M.rTr t 31 ∧ M.cnt t ≤ 2000 ∧ RngT t) ∧ Below w12.heap.size w12 wk ∧ RowAt wk NoX (csb.drop (n * 8)) t ∧ 12 ≤ T.size) (fun _ k _ => f.body.len - (intOf k).toNat)
              case atStart => exact ⟨0, f.body, _, rfl, Nat.zero_add _, rfl, head_eq HH.out, ⟨rfn.2.2, hcn, hrf⟩, Below.refl _ _, by simpa using rowb, by simp only [ByteArray.size_append]; have e4 : (⟨#[102, 117, 110, 32]⟩ : ByteArray).size = 4 := rfl; have e7 : (⟨#[32, 40, 32, 41, 32, 123, 32]⟩ : ByteArray).size = 7 := rfl; omega⟩
              case round =>
                obtain ⟨n, t, T, rfl, hn, rfl, HT, ⟨rt, hct, rgt⟩, hbk, rowk, hT12⟩ := hrel
                obtain ⟨j0, j1, j2, jf, jz⟩ := cells3 (kept hbk HN)
                have hTs : T.size ≤ 65536 := by
                  have := congrArg List.length HT.out
                  simp only [List.length_append, size_of] at this
                  omega
                have slk := slb.keep (Below.keepX hbk)
                by_cases hnl : n < f.body.len
                · cases t with
                  | nil => simp only [M.Tr.len] at hn; omega
                  | cons op x y z a pr th el nx =>
                    obtain ⟨va1, vp1, vt1, ve1, ct1, ce1, restk, ek, gA1, gP2, gT1, gE1, gN1⟩ := rowk
                    obtain ⟨ro, rth, rel, rnx⟩ := rgt
                    have g2 := slk.2
                    obtain ⟨a'', cap'', e'', g2⟩ := g2
                    simp only [Value.slice.injEq, true_and] at e''
                    obtain ⟨rfl, rfl⟩ := e''
                    rcases g2 with ⟨g2, _⟩ | ⟨b2, o2, rfl, hlt2, _, hc2⟩
                    · omega
                    obtain ⟨k0, k1, k2, k3, k4, k5, k6, k7, kr⟩ := eight hc2 ek
                    have hTm : StmAt wr NoX vt1 th := ⟨ct1, gT1.1, gT1.2⟩
                    have hEm : StmAt wr NoX ve1 el := ⟨ce1, gE1.1, gE1.2⟩
                    obtain ⟨q11, m11, rfl⟩ := SlAt.form gA1
                    obtain ⟨q12, m12, rfl⟩ := SlAt.form gP2
                    obtain ⟨q13, m13, rfl⟩ := StmAt.form hTm
                    obtain ⟨q14, m14, rfl⟩ := StmAt.form hEm
                    have hni : (n : Int) < (f.body.len : Int) := by omega
                    have HLT : Hid (M.laidTr (.cons op x y z a pr th el nx) = laidSt op x y z a pr th el ++ M.laidTr nx) := laidTr_cons ..
                    have hcc : M.cnt (M.one op x y z a pr th el) ≤ 2000 ∧ M.cnt nx ≤ 2000 := by
                      simp only [M.cnt, M.one] at hct ⊢
                      omega
                    have HS : Hid ((stT (M.one op x y z a pr th el)).data.toList ++ [32] = M.bytesB (laidSt op x y z a pr th el)) := by
                      refine st_text (one_of rt) hcc.1 ?_
                      have h1 := congrArg List.length HT.out
                      rw [HLT.out, M.bytesB_app] at h1
                      simp only [List.length_append, size_of, List.length_cons, List.length_nil] at h1
                      omega
                    have hst : (stT (M.one op x y z a pr th el)).size ≤ 65536 := by
                      have h1 := congrArg List.length HT.out
                      have h2 := congrArg List.length HS.out
                      rw [HLT.out, M.bytesB_app] at h1
                      simp only [List.length_append, size_of] at h1 h2
                      omega
                    go_wp2_with (go_at_call 15; refine stopHere ?_)
                    refine stopAt ?_
                    refine (pstmt_any wr op x y z _ _ _ _ a pr th el gA1 gP2 hTm hEm ro rth rel (((ht10.below hbr).below HB).below hbk)).mono ?_
                    rintro e w13 ⟨rfl, hb13⟩
                    generalize stT (M.one op x y z a pr th el) = U at HS hst
                    go_wp2_with fail
                    refine ⟨⟨n + 1, nx, _, by go_num, by simp only [M.Tr.len] at hn; omega, rfl, ?_, ⟨rt.2, hcc.2, rnx⟩, hbk.trans (hb13.mono hbk.size), ?_, ?_⟩, by simp [intOf]; omega⟩
                    · unfold Hid
                      rw [← HT.out, HLT.out, M.bytesB_app, ← HS.out]
                      simp
                    · rw [kr]; exact RowAt.keep (Below.keepX hb13) gN1
                    · simp only [ByteArray.size_append]; omega
                · have hni : ¬ (n : Int) < (f.body.len : Int) := by omega
                  obtain rfl : t = .nil := len_nil (by omega)
                  go_wp2_with fail
                  refine ⟨⟨(hbr.trans (HB.mono hbr.size)).trans (hbk.mono (hbr.trans (HB.mono hbr.size)).size), 1, _, M.text p', rfl, rfl, ?_, .inr rfl⟩, by simp [intOf]⟩
                  unfold Hid
                  rw [← HT.out]
                  simp [M.laidTr, M.bytesB]
          all_goals
            have C11 := C10.trans (hbr.mono C10.size)
            have hvr := hv10.keep (Below.keepX hbr)
            have hur := hu10.keep (Below.keepX hbr)
            have Qr := Q10.keep (Below.keepX hbr)
            have htr := ht10.below hbr
            have byr := kept hbr by10
            have Nr := kept hbr N10
            have hTs : T.size ≤ (prT p).size := by
              have := congrArg List.length HR.out
              rw [HP.out]
              simp only [List.length_append, size_of] at this
              show T.size ≤ (M.text p).toArray.size
              rw [List.size_toArray]
              omega
            go_wp2_with (go_at_call 13; refine stopHere ?_)
            refine stopAt ?_
            refine (pprogram_any wr _ p hvr hr htr).mono ?_
            rintro e w11 ⟨rfl, hb11⟩
            have C12 := C11.trans (hb11.mono C11.size)
            have Nq := kept hb11 Nr
            have byq := kept hb11 byr
            have Qq := Qr.keep (Below.keepX hb11)
            have huq := hur.keep (Below.keepX hb11)
            have htq := htr.below hb11
            clear cr
            have hP1 : (prT p).size ≤ 65536 := by rw [HP.out]; show (M.text p).toArray.size ≤ 65536; rw [List.size_toArray]; exact hlp
            have hQ1 : (prT q).size ≤ 65536 := by
              obtain ⟨_, h1, h2⟩ := prt_text hqq
              rw [h2]; show (M.text q).toArray.size ≤ 65536; rw [List.size_toArray]; exact h1
            have HT : Hid ((prT p).data.toList = T.data.toList ++ rest) := by unfold Hid; rw [HP.out, HR.out]
            have KH : Hid (∀ W', Below w11.heap.size w11 W' → W'.cell? ⟨g, 0, none⟩ = some (.slice a7 (p.length + q.length) cap7) ∧ W'.cell? ⟨w.heap.size + 1, 0, none⟩ = some (.slice ua q.length uc)) := fun W' h => ⟨cell0 (kept h Nq), cell0 (kept h byq)⟩
            have HF : Hid (∀ W', Below w11.heap.size w11 W' → Calls Tryz.prog 10 #[] W' fun e w' => e = .returned (.bool true) ∧ Below w11.heap.size w11 w') := fun W' h => (fixed_any W' (htq.below h)).mono fun e w' ⟨he, hb⟩ => ⟨he, h.trans (hb.mono h.size)⟩
            have HPB : Hid (∀ W', Below w11.heap.size w11 W' → Calls Tryz.prog 13 #[.agg #[.slice a7 (p.length + q.length) cap7]] W' fun e w' => e = .returned (.string (prT p ++ prT q)) ∧ Below w11.heap.size w11 w') := fun W' h => (pprogram_any W' _ (p ++ q) (Qq.keep (Below.keepX h)) hrb (htq.below h)).mono fun e w' ⟨he, hb⟩ => ⟨by rw [he, HE.out], h.trans (hb.mono h.size)⟩
            have HQB : Hid (∀ W', Below w11.heap.size w11 W' → Calls Tryz.prog 13 #[.agg #[.slice ua q.length uc]] W' fun e w' => e = .returned (.string (prT q)) ∧ Below w11.heap.size w11 w') := fun W' h => (pprogram_any W' _ q (huq.keep (Below.keepX h)) hs (htq.below h)).mono fun e w' ⟨he, hb⟩ => ⟨he, h.trans (hb.mono h.size)⟩
            have hbd : Below w11.heap.size w11 w11.drew := (Below.refl _ _).drew
            clear HE HP HR
            generalize prT p = P at hP1 hTs HT HPB ⊢
            generalize prT q = R at hQ1 HPB HQB ⊢
            have hTi : (T.size : Int) ≤ (P.size : Int) := by omega
            have hcat : ¬ 9223372036854775807 < P.size + R.size := by omega
            have hcat2 : ¬ (9223372036854775807 : Int) < (P.size : Int) + (R.size : Int) := by omega
            have hex : ((P.extract 0 T.size).toList == T.toList) = true := pre_eq HT.out
            go_wp2_with fail
            go_region_held3 (fun w' => w'.cell? ⟨g, 0, none⟩ = some (.slice a7 (p.length + q.length) cap7) ∧ w'.cell? ⟨w.heap.size + 1, 0, none⟩ = some (.slice ua q.length uc)) (first | exact KH.out _ hb15 | exact KH.out _ hb14 | exact KH.out _ hb13 | exact KH.out _ (Below.refl _ _).drew | exact KH.out _ (Below.refl _ _) | go_keep)
              (first | (go_at_call 10; with_reducible refine (HF.out _ hbd).mono ?_; rintro e w13 ⟨rfl, hb13⟩) | (go_at_call 13; with_reducible refine (HPB.out _ hb13).mono ?_; rintro e w14 ⟨rfl, hb14⟩) | (go_at_call 13; with_reducible refine (HQB.out _ hb14).mono ?_; rintro e w15 ⟨rfl, hb15⟩))
            all_goals
              go_wp2_with fail
              go_ret
              exact ⟨rfl, C12.trans (hb15.mono C12.size)⟩
end PrintParts
end Go.Proofs.YtkpmpnebmkeocaaGreatDoor
