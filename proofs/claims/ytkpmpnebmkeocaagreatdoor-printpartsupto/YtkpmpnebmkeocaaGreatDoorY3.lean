/-
  The walk of print.newLayer: a new layer, whose maps are filled in whatever order. No conditions.
-/
import Derived.Test.YtkpmpnebmkeocaaGreatDoorY1
set_option linter.unusedVariables false
set_option linter.unusedSimpArgs false
namespace Go.Proofs.YtkpmpnebmkeocaaGreatDoor
open Go.RowKit


def nlp0 : Oper := { dst := some 1, op := .makeMap 56 none, type := 56, pos := "lay.go:19", after := #[], guard := none }
def nlp1 : Oper := { dst := some 2, op := .build 73 #[(0, .const (.string { data := #[111, 117, 116] }))], type := 73, pos := "lay.go:19", after := #[], guard := none }
def nlp2 : Oper := { dst := none, op := .insert 56 (.tmp 1) (.const (.int .i64 8)) (.tmp 2), type := 0, pos := "lay.go:19", after := #[⟨0, .data⟩, ⟨1, .data⟩], guard := none }
def nlp3 : Oper := { dst := some 3, op := .build 73 #[(0, .const (.string { data := #[114, 101, 116, 117, 114, 110] }))], type := 73, pos := "lay.go:19", after := #[], guard := none }
def nlp4 : Oper := { dst := none, op := .insert 56 (.tmp 1) (.const (.int .i64 11)) (.tmp 3), type := 0, pos := "lay.go:19", after := #[⟨0, .data⟩, ⟨3, .data⟩], guard := none }
def nlp5 : Oper := { dst := some 4, op := .build 73 #[(0, .const (.string { data := #[105, 102] }))], type := 73, pos := "lay.go:19", after := #[], guard := none }
def nlp6 : Oper := { dst := none, op := .insert 56 (.tmp 1) (.const (.int .i64 9)) (.tmp 4), type := 0, pos := "lay.go:19", after := #[⟨0, .data⟩, ⟨5, .data⟩], guard := none }
def nlp7 : Oper := { dst := some 5, op := .build 73 #[(0, .const (.string { data := #[119, 104, 105, 108, 101] }))], type := 73, pos := "lay.go:19", after := #[], guard := none }
def nlp8 : Oper := { dst := none, op := .insert 56 (.tmp 1) (.const (.int .i64 10)) (.tmp 5), type := 0, pos := "lay.go:19", after := #[⟨0, .data⟩, ⟨7, .data⟩], guard := none }
def nlp9 : Oper := { dst := some 6, op := .build 73 #[(0, .const (.string { data := #[105, 110] }))], type := 73, pos := "lay.go:19", after := #[], guard := none }
def nlp10 : Oper := { dst := none, op := .insert 56 (.tmp 1) (.const (.int .i64 7)) (.tmp 6), type := 0, pos := "lay.go:19", after := #[⟨0, .data⟩, ⟨9, .data⟩], guard := none }
def nlp11 : Oper := { dst := some 7, op := .build 73 #[(0, .const (.string { data := #[99, 97, 108, 108] }))], type := 73, pos := "lay.go:19", after := #[], guard := none }
def nlp12 : Oper := { dst := none, op := .insert 56 (.tmp 1) (.const (.int .i64 5)) (.tmp 7), type := 0, pos := "lay.go:19", after := #[⟨0, .data⟩, ⟨11, .data⟩], guard := none }
def nlp13 : Oper := { dst := some 8, op := .build 73 #[(0, .const (.string { data := #[110, 101, 119] }))], type := 73, pos := "lay.go:19", after := #[], guard := none }
def nlp14 : Oper := { dst := none, op := .insert 56 (.tmp 1) (.const (.int .i64 4)) (.tmp 8), type := 0, pos := "lay.go:19", after := #[⟨0, .data⟩, ⟨13, .data⟩], guard := none }
def nlp15 : Oper := { dst := some 9, op := .move (.tmp 1), type := 56, pos := "lay.go:19", after := #[⟨0, .data⟩, ⟨1, .data⟩, ⟨2, .data⟩, ⟨3, .data⟩, ⟨4, .data⟩, ⟨5, .data⟩, ⟨6, .data⟩, ⟨7, .data⟩, ⟨8, .data⟩, ⟨9, .data⟩, ⟨10, .data⟩, ⟨11, .data⟩, ⟨12, .data⟩, ⟨13, .data⟩, ⟨14, .data⟩], guard := none }
def nlp16 : Oper := { dst := some 10, op := .makeMap 57 none, type := 57, pos := "lay.go:19", after := #[], guard := none }
def nlp17 : Oper := { dst := some 11, op := .build 47 #[(0, .const (.int .i64 0))], type := 47, pos := "lay.go:19", after := #[], guard := none }
def nlp18 : Oper := { dst := some 12, op := .build 73 #[(0, .const (.string { data := #[110, 117, 108, 108] }))], type := 73, pos := "lay.go:19", after := #[], guard := none }
def nlp19 : Oper := { dst := none, op := .insert 57 (.tmp 10) (.tmp 11) (.tmp 12), type := 0, pos := "lay.go:19", after := #[⟨16, .data⟩, ⟨17, .data⟩, ⟨18, .data⟩], guard := none }
def nlp20 : Oper := { dst := some 13, op := .build 47 #[(0, .const (.int .i64 1)), (1, .const (.int .i64 0))], type := 47, pos := "lay.go:19", after := #[], guard := none }
def nlp21 : Oper := { dst := some 14, op := .build 73 #[(0, .const (.string { data := #[102, 97, 108, 115, 101] }))], type := 73, pos := "lay.go:19", after := #[], guard := none }
def nlp22 : Oper := { dst := none, op := .insert 57 (.tmp 10) (.tmp 13) (.tmp 14), type := 0, pos := "lay.go:19", after := #[⟨16, .data⟩, ⟨20, .data⟩, ⟨21, .data⟩], guard := none }
def nlp23 : Oper := { dst := some 15, op := .build 47 #[(0, .const (.int .i64 1)), (1, .const (.int .i64 1))], type := 47, pos := "lay.go:19", after := #[], guard := none }
def nlp24 : Oper := { dst := some 16, op := .build 73 #[(0, .const (.string { data := #[116, 114, 117, 101] }))], type := 73, pos := "lay.go:19", after := #[], guard := none }
def nlp25 : Oper := { dst := none, op := .insert 57 (.tmp 10) (.tmp 15) (.tmp 16), type := 0, pos := "lay.go:19", after := #[⟨16, .data⟩, ⟨23, .data⟩, ⟨24, .data⟩], guard := none }
def nlp26 : Oper := { dst := some 17, op := .move (.tmp 10), type := 57, pos := "lay.go:19", after := #[⟨16, .data⟩, ⟨17, .data⟩, ⟨18, .data⟩, ⟨19, .data⟩, ⟨20, .data⟩, ⟨21, .data⟩, ⟨22, .data⟩, ⟨23, .data⟩, ⟨24, .data⟩, ⟨25, .data⟩], guard := none }
def nlp27 : Oper := { dst := some 18, op := .build 59 #[(2, .tmp 9), (3, .tmp 17)], type := 59, pos := "lay.go:19", after := #[⟨15, .data⟩, ⟨26, .data⟩], guard := none }
def nlp28 : Oper := { dst := some 19, op := .box 59 (.tmp 18), type := 51, pos := "lay.go:19", after := #[⟨27, .data⟩], guard := none }
def nlp29 : Oper := { dst := some 0, op := .assign (.tmp 19), type := 51, pos := "lay.go:19", after := #[⟨28, .data⟩, ⟨0, .phase⟩, ⟨1, .phase⟩, ⟨2, .phase⟩, ⟨3, .phase⟩, ⟨4, .phase⟩, ⟨5, .phase⟩, ⟨6, .phase⟩, ⟨7, .phase⟩, ⟨8, .phase⟩, ⟨9, .phase⟩, ⟨10, .phase⟩, ⟨11, .phase⟩, ⟨12, .phase⟩, ⟨13, .phase⟩, ⟨14, .phase⟩, ⟨15, .phase⟩, ⟨16, .phase⟩, ⟨17, .phase⟩, ⟨18, .phase⟩, ⟨19, .phase⟩, ⟨20, .phase⟩, ⟨21, .phase⟩, ⟨22, .phase⟩, ⟨23, .phase⟩, ⟨24, .phase⟩, ⟨25, .phase⟩, ⟨26, .phase⟩, ⟨27, .phase⟩, ⟨28, .phase⟩], guard := none }
def nlOps : Array Oper := #[nlp0, nlp1, nlp2, nlp3, nlp4, nlp5, nlp6, nlp7, nlp8, nlp9, nlp10, nlp11, nlp12, nlp13, nlp14, nlp15, nlp16, nlp17, nlp18, nlp19, nlp20, nlp21, nlp22, nlp23, nlp24, nlp25, nlp26, nlp27, nlp28, nlp29]
theorem nlo0 : nlOps[0]? = some nlp0 := rfl
theorem nlo1 : nlOps[1]? = some nlp1 := rfl
theorem nlo2 : nlOps[2]? = some nlp2 := rfl
theorem nlo3 : nlOps[3]? = some nlp3 := rfl
theorem nlo4 : nlOps[4]? = some nlp4 := rfl
theorem nlo5 : nlOps[5]? = some nlp5 := rfl
theorem nlo6 : nlOps[6]? = some nlp6 := rfl
theorem nlo7 : nlOps[7]? = some nlp7 := rfl
theorem nlo8 : nlOps[8]? = some nlp8 := rfl
theorem nlo9 : nlOps[9]? = some nlp9 := rfl
theorem nlo10 : nlOps[10]? = some nlp10 := rfl
theorem nlo11 : nlOps[11]? = some nlp11 := rfl
theorem nlo12 : nlOps[12]? = some nlp12 := rfl
theorem nlo13 : nlOps[13]? = some nlp13 := rfl
theorem nlo14 : nlOps[14]? = some nlp14 := rfl
theorem nlo15 : nlOps[15]? = some nlp15 := rfl
theorem nlo16 : nlOps[16]? = some nlp16 := rfl
theorem nlo17 : nlOps[17]? = some nlp17 := rfl
theorem nlo18 : nlOps[18]? = some nlp18 := rfl
theorem nlo19 : nlOps[19]? = some nlp19 := rfl
theorem nlo20 : nlOps[20]? = some nlp20 := rfl
theorem nlo21 : nlOps[21]? = some nlp21 := rfl
theorem nlo22 : nlOps[22]? = some nlp22 := rfl
theorem nlo23 : nlOps[23]? = some nlp23 := rfl
theorem nlo24 : nlOps[24]? = some nlp24 := rfl
theorem nlo25 : nlOps[25]? = some nlp25 := rfl
theorem nlo26 : nlOps[26]? = some nlp26 := rfl
theorem nlo27 : nlOps[27]? = some nlp27 := rfl
theorem nlo28 : nlOps[28]? = some nlp28 := rfl
theorem nlo29 : nlOps[29]? = some nlp29 := rfl
def nlSrc : Nat → Nat
  | 0 => 29
  | 1 => 0
  | 2 => 1
  | 3 => 3
  | 4 => 5
  | 5 => 7
  | 6 => 9
  | 7 => 11
  | 8 => 13
  | 9 => 15
  | 10 => 16
  | 11 => 17
  | 12 => 18
  | 13 => 20
  | 14 => 21
  | 15 => 23
  | 16 => 24
  | 17 => 26
  | 18 => 27
  | 19 => 28
  | _ => 100
def nlVal (b1 b2 L : Nat) : Nat → Value
  | 0 => .pointer (some ⟨L, 0, none⟩)
  | 1 => .map (some b1)
  | 2 => .agg #[.string M.kOut]
  | 3 => .agg #[.string M.kReturn]
  | 4 => .agg #[.string M.kIf]
  | 5 => .agg #[.string M.kWhile]
  | 6 => .agg #[.string M.kIn]
  | 7 => .agg #[.string M.kCall]
  | 8 => .agg #[.string M.kNew]
  | 9 => .map (some b1)
  | 10 => .map (some b2)
  | 11 => .agg #[.int .i64 0, .int .i64 0, .string ⟨#[]⟩]
  | 12 => .agg #[.string M.kNull]
  | 13 => .agg #[.int .i64 1, .int .i64 0, .string ⟨#[]⟩]
  | 14 => .agg #[.string M.kFalse]
  | 15 => .agg #[.int .i64 1, .int .i64 1, .string ⟨#[]⟩]
  | 16 => .agg #[.string M.kTrue]
  | 17 => .map (some b2)
  | 18 => .agg #[.slice none 0 0, .bool false, .map (some b1), .map (some b2)]
  | 19 => .pointer (some ⟨L, 0, none⟩)
  | _ => undef
def insT1 : List (Nat × Value × Value) := [(2, .int .i64 8, .agg #[.string M.kOut]), (4, .int .i64 11, .agg #[.string M.kReturn]), (6, .int .i64 9, .agg #[.string M.kIf]), (8, .int .i64 10, .agg #[.string M.kWhile]), (10, .int .i64 7, .agg #[.string M.kIn]), (12, .int .i64 5, .agg #[.string M.kCall]), (14, .int .i64 4, .agg #[.string M.kNew])]
def insT2 : List (Nat × Value × Value) := [(19, .agg #[.int .i64 0, .int .i64 0, .string ⟨#[]⟩], .agg #[.string M.kNull]), (22, .agg #[.int .i64 1, .int .i64 0, .string ⟨#[]⟩], .agg #[.string M.kFalse]), (25, .agg #[.int .i64 1, .int .i64 1, .string ⟨#[]⟩], .agg #[.string M.kTrue])]
def LT (l : Array Bool) (i : Nat) : Prop := l.getD i false = true
theorem LT.ne {l : Array Bool} {i j : Nat} (h : i ≠ j) : LT (l.setIfInBounds i true) j ↔ LT l j := by unfold LT; rw [getD_set_ne false h]
theorem LT.mono {l : Array Bool} {i j : Nat} (h : LT l j) : LT (l.setIfInBounds i true) j := getD_set_true h
theorem LT.same {l : Array Bool} {i : Nat} (h : i < l.size) : LT (l.setIfInBounds i true) i := by unfold LT; simp [h]
theorem ready_no {l : Array Bool} {i : Nat} (h : i ∈ Region.ready .any nlOps l) : ¬ LT l i := by
  intro hl
  have h0 := (mem_ready.1 h).1
  unfold LT at hl
  rw [Array.getD_eq_getD_getElem?] at h0 hl
  cases e : l[i]? with
  | none => rw [e] at h0; cases h0
  | some b => rw [e] at h0 hl; simp at h0 hl; rw [h0] at hl; cases hl
theorem ready_dep {l : Array Bool} {i : Nat} {o : Oper} (ho : nlOps[i]? = some o) (h : i ∈ Region.ready .any nlOps l) : ∀ e ∈ o.after, Region.binds .any e = true → LT l e.on := by
  obtain ⟨_, o', ho', hall⟩ := mem_ready.1 h
  rw [ho] at ho'
  cases ho'
  exact hall
def MapIn (w : World) (b : Nat) (l : Array Bool) (T : List (Nat × Value × Value)) : Prop :=
  ∃ es c, w.heap[b]? = some (.map es c) ∧ (∀ e ∈ es.toList, ∃ p ∈ T, LT l p.1 ∧ e.key = p.2.1 ∧ e.val = p.2.2) ∧ ∀ p ∈ T, LT l p.1 → ∃ e ∈ es.toList, e.key = p.2.1 ∧ e.val = p.2.2
theorem MapIn.stay {w w' : World} {b : Nat} {l l' : Array Bool} {T : List (Nat × Value × Value)} (h : MapIn w b l T) (hb : b < w.heap.size → w'.heap[b]? = w.heap[b]?) (hl : ∀ p ∈ T, LT l' p.1 ↔ LT l p.1) : MapIn w' b l' T := by
  obtain ⟨es, c, h1, h2, h3⟩ := h
  refine ⟨es, c, (hb (Array.getElem?_eq_some_iff.1 h1).1).trans h1, fun e he => ?_, fun p hp hl' => h3 p hp ((hl p hp).1 hl')⟩
  obtain ⟨p, hp, q1, q2⟩ := h2 e he
  exact ⟨p, hp, (hl p hp).2 q1, q2⟩
theorem MapIn.lt {w : World} {b : Nat} {l : Array Bool} {T : List (Nat × Value × Value)} (h : MapIn w b l T) : b < w.heap.size := by
  obtain ⟨es, c, h1, _⟩ := h
  exact (Array.getElem?_eq_some_iff.1 h1).1
structure NL (w0 : World) (l : Array Bool) (a : Act) (w : World) (b1 b2 L : Nat) : Prop where
  sz : l.size = 30
  act : a.defers = [] ∧ a.tmps.size = 20
  cl : ∀ i o, nlOps[i]? = some o → LT l i → ∀ e ∈ o.after, Region.binds .any e = true → LT l e.on
  slots : ∀ d, d < 20 → LT l (nlSrc d) → a.tmps[d]? = some (nlVal b1 b2 L d)
  bel : Below w0.heap.size w0 w
  m1 : LT l 0 → w0.heap.size ≤ b1 ∧ MapIn w b1 l insT1
  m2 : LT l 16 → w0.heap.size ≤ b2 ∧ MapIn w b2 l insT2
  ne : LT l 0 → LT l 16 → b1 ≠ b2
  bx : LT l 28 → w0.heap.size ≤ L ∧ w.heap[L]? = some (.cells #[.slice none 0 0, .bool false, .map (some b1), .map (some b2)] 59 (0, 0))
def NLE (w0 : World) (l : Array Bool) (a : Act) (w : World) : Prop := ∃ b1 b2 L, NL w0 l a w b1 b2 L
def NS (w0 : World) (k : Nat) : Prop := ∀ {Q : Exit → Act → World → Prop} {l : Array Bool} {a : Act} {w : World} {b1 b2 L : Nat}, NL w0 l a w b1 b2 L → k ∈ Region.ready .any nlOps l → wpOp Tryz.prog nlOps Q k (NLE w0 (l.setIfInBounds k true)) a w
theorem NL.ev {w0 : World} {l : Array Bool} {a : Act} {w : World} {b1 b2 L : Nat} (h : NL w0 l a w b1 b2 L) (d : Nat) (hd : d < 20) (hl : LT l (nlSrc d)) : a.eval (.tmp d) = nlVal b1 b2 L d := by
  have := h.slots d hd hl
  simp [Act.eval, this]
theorem nlSrc_inj' : ∀ d, d < 20 → ∀ d', d' < 20 → nlSrc d = nlSrc d' → d = d' := by decide
theorem nlSrc_inj (d d' : Nat) (h : d < 20) (h' : d' < 20) : nlSrc d = nlSrc d' → d = d' := nlSrc_inj' d h d' h'
theorem cl_set {l : Array Bool} {i : Nat} (hi : i ∈ Region.ready .any nlOps l) (h : ∀ i o, nlOps[i]? = some o → LT l i → ∀ e ∈ o.after, Region.binds .any e = true → LT l e.on) :
    ∀ j o, nlOps[j]? = some o → LT (l.setIfInBounds i true) j → ∀ e ∈ o.after, Region.binds .any e = true → LT (l.setIfInBounds i true) e.on := by
  intro j o ho hl e he hb
  by_cases hij : i = j
  · subst hij; exact (ready_dep ho hi e he hb).mono
  · exact (h j o ho ((LT.ne hij).1 hl) e he hb).mono
theorem ready_lt {l : Array Bool} {i : Nat} (h : i ∈ Region.ready .any nlOps l) : i < l.size := by
  have h0 := (mem_ready.1 h).1
  rw [Array.getD_eq_getD_getElem?] at h0
  cases e : l[i]? with
  | none => rw [e] at h0; cases h0
  | some b => exact (Array.getElem?_eq_some_iff.1 e).1
theorem slots_put {l : Array Bool} {a : Act} {b1 b2 L b1' b2' L' : Nat} {i d : Nat} (hz : a.tmps.size = 20) (hd : d < 20) (hs : nlSrc d = i) (h : ∀ d, d < 20 → LT l (nlSrc d) → a.tmps[d]? = some (nlVal b1 b2 L d))
    (hv : ∀ d', d' < 20 → d' ≠ d → LT l (nlSrc d') → nlVal b1' b2' L' d' = nlVal b1 b2 L d') :
    ∀ d', d' < 20 → LT (l.setIfInBounds i true) (nlSrc d') → (a.put (some d) (nlVal b1' b2' L' d)).tmps[d']? = some (nlVal b1' b2' L' d') := by
  intro d' hd' hl
  by_cases e : d' = d
  · subst e
    simp [Act.put, hz, hd]
  · have hne : i ≠ nlSrc d' := fun e' => e (nlSrc_inj d' d hd' hd (by rw [hs, e']))
    have hl' := (LT.ne hne).1 hl
    rw [hv d' hd' e hl']
    have := h d' hd' hl'
    simp only [Act.put]
    rw [Array.getElem?_setIfInBounds_ne (Ne.symm e)]
    exact this
theorem NL.pure {w0 : World} {l : Array Bool} {a : Act} {w : World} {b1 b2 L : Nat} (h : NL w0 l a w b1 b2 L) (i d : Nat) (hd : d < 20) (hs : nlSrc d = i) (hi : i ∈ Region.ready .any nlOps l)
    (hp : i ≠ 0 ∧ i ≠ 16 ∧ i ≠ 28 ∧ (∀ j ∈ [2, 4, 6, 8, 10, 12, 14, 19, 22, 25], i ≠ j)) : NL w0 (l.setIfInBounds i true) (a.put (some d) (nlVal b1 b2 L d)) w b1 b2 L := by
  obtain ⟨p0, p1, p2, p3⟩ := hp
  refine ⟨by simpa using h.sz, ⟨h.act.1, by simpa [Act.put] using h.act.2⟩, cl_set hi h.cl, slots_put h.act.2 hd hs h.slots (fun _ _ _ _ => rfl), h.bel, fun hl => ?_, fun hl => ?_, fun k1 k2 => h.ne ((LT.ne p0).1 k1) ((LT.ne p1).1 k2), fun k => h.bx ((LT.ne p2).1 k)⟩
  · obtain ⟨g1, g2⟩ := h.m1 ((LT.ne p0).1 hl)
    exact ⟨g1, g2.stay (fun _ => rfl) (fun p hp => LT.ne (p3 _ (by simp only [insT1, insT2, List.mem_cons, List.not_mem_nil, or_false] at hp; rcases hp with rfl | rfl | rfl | rfl | rfl | rfl | rfl <;> simp)))⟩
  · obtain ⟨g1, g2⟩ := h.m2 ((LT.ne p1).1 hl)
    exact ⟨g1, g2.stay (fun _ => rfl) (fun p hp => LT.ne (p3 _ (by simp only [insT1, insT2, List.mem_cons, List.not_mem_nil, or_false] at hp; rcases hp with rfl | rfl | rfl <;> simp)))⟩
theorem NL.dep {w0 : World} {l : Array Bool} {a : Act} {w : World} {b1 b2 L : Nat} (h : NL w0 l a w b1 b2 L) : (LT l 15 → LT l 0) ∧ (LT l 26 → LT l 16) ∧ (LT l 27 → LT l 15 ∧ LT l 26) ∧ (LT l 28 → LT l 27) ∧ (LT l 29 → LT l 28) ∧ (∀ p ∈ insT1, LT l p.1 → LT l 0) ∧ (∀ p ∈ insT2, LT l p.1 → LT l 16) := by
  refine ⟨fun k => h.cl 15 _ nlo15 k ⟨0, .data⟩ (by simp [nlp15]) rfl, fun k => h.cl 26 _ nlo26 k ⟨16, .data⟩ (by simp [nlp26]) rfl, fun k => ⟨h.cl 27 _ nlo27 k ⟨15, .data⟩ (by simp [nlp27]) rfl, h.cl 27 _ nlo27 k ⟨26, .data⟩ (by simp [nlp27]) rfl⟩, fun k => h.cl 28 _ nlo28 k ⟨27, .data⟩ (by simp [nlp28]) rfl, fun k => h.cl 29 _ nlo29 k ⟨28, .data⟩ (by simp [nlp29]) rfl, ?_, ?_⟩
  · intro p hp k
    simp only [insT1, List.mem_cons, List.not_mem_nil, or_false] at hp
    rcases hp with rfl | rfl | rfl | rfl | rfl | rfl | rfl
    · exact h.cl 2 _ nlo2 k ⟨0, .data⟩ (by simp [nlp2]) rfl
    · exact h.cl 4 _ nlo4 k ⟨0, .data⟩ (by simp [nlp4]) rfl
    · exact h.cl 6 _ nlo6 k ⟨0, .data⟩ (by simp [nlp6]) rfl
    · exact h.cl 8 _ nlo8 k ⟨0, .data⟩ (by simp [nlp8]) rfl
    · exact h.cl 10 _ nlo10 k ⟨0, .data⟩ (by simp [nlp10]) rfl
    · exact h.cl 12 _ nlo12 k ⟨0, .data⟩ (by simp [nlp12]) rfl
    · exact h.cl 14 _ nlo14 k ⟨0, .data⟩ (by simp [nlp14]) rfl
  · intro p hp k
    simp only [insT2, List.mem_cons, List.not_mem_nil, or_false] at hp
    rcases hp with rfl | rfl | rfl
    · exact h.cl 19 _ nlo19 k ⟨16, .data⟩ (by simp [nlp19]) rfl
    · exact h.cl 22 _ nlo22 k ⟨16, .data⟩ (by simp [nlp22]) rfl
    · exact h.cl 25 _ nlo25 k ⟨16, .data⟩ (by simp [nlp25]) rfl
theorem twenty {d : Nat} (h : d < 20) : d = 0 ∨ d = 1 ∨ d = 2 ∨ d = 3 ∨ d = 4 ∨ d = 5 ∨ d = 6 ∨ d = 7 ∨ d = 8 ∨ d = 9 ∨ d = 10 ∨ d = 11 ∨ d = 12 ∨ d = 13 ∨ d = 14 ∨ d = 15 ∨ d = 16 ∨ d = 17 ∨ d = 18 ∨ d = 19 := by omega
theorem idx1 {p : Nat × Value × Value} (hp : p ∈ insT1) : p.1 ∈ [2, 4, 6, 8, 10, 12, 14] := by
  simp only [insT1, List.mem_cons, List.not_mem_nil, or_false] at hp
  rcases hp with rfl | rfl | rfl | rfl | rfl | rfl | rfl <;> simp
theorem idx2 {p : Nat × Value × Value} (hp : p ∈ insT2) : p.1 ∈ [19, 22, 25] := by
  simp only [insT2, List.mem_cons, List.not_mem_nil, or_false] at hp
  rcases hp with rfl | rfl | rfl <;> simp
theorem idx_ne {p q : Nat × Value × Value} (hp : p ∈ insT1) (hq : q ∈ insT2) : p.1 ≠ q.1 := by
  have h1 := idx1 hp
  have h2 := idx2 hq
  simp at h1 h2
  omega
theorem NL.mk1 {w0 : World} {l : Array Bool} {a : Act} {w : World} {b1 b2 L : Nat} (h : NL w0 l a w b1 b2 L) (hi : 0 ∈ Region.ready .any nlOps l) : NLE w0 (l.setIfInBounds 0 true) (a.put (some 1) (.map (some w.heap.size))) (w.alloc (.map #[] 0)) := by
  have hn := ready_no hi
  obtain ⟨d1, d2, d3, d4, d5, d6, d7⟩ := h.dep
  refine ⟨w.heap.size, b2, L, by simpa using h.sz, ⟨h.act.1, by simpa [Act.put] using h.act.2⟩, cl_set hi h.cl, slots_put h.act.2 (d := 1) (by decide) rfl h.slots (fun d' hd hne hl => ?_), h.bel.alloc h.bel.size _, fun _ => ⟨h.bel.size, #[], 0, heap_alloc_new w _, fun e he => by simp at he, fun p hp hl => ?_⟩, fun hl => ?_, fun _ k => ?_, fun k => ?_⟩
  · rcases twenty hd with rfl | rfl | rfl | rfl | rfl | rfl | rfl | rfl | rfl | rfl | rfl | rfl | rfl | rfl | rfl | rfl | rfl | rfl | rfl | rfl
    all_goals first | rfl | exact absurd rfl hne | exact absurd (d1 hl) hn | exact absurd (d1 (d3 hl).1) hn
  · have := idx1 hp
    simp at this
    exact absurd (d6 p hp ((LT.ne (by omega)).1 hl)) hn
  · obtain ⟨g1, g2⟩ := h.m2 ((LT.ne (by decide)).1 hl)
    exact ⟨g1, g2.stay (fun hb => Below.heap_alloc _ _ _ hb) (fun p hp => LT.ne (by have := idx2 hp; simp at this; omega))⟩
  · obtain ⟨g1, g2⟩ := h.m2 ((LT.ne (by decide)).1 k)
    exact Nat.ne_of_gt g2.lt
  · exact absurd (d1 (d3 (d4 ((LT.ne (by decide)).1 k))).1) hn
theorem NL.mk2 {w0 : World} {l : Array Bool} {a : Act} {w : World} {b1 b2 L : Nat} (h : NL w0 l a w b1 b2 L) (hi : 16 ∈ Region.ready .any nlOps l) : NLE w0 (l.setIfInBounds 16 true) (a.put (some 10) (.map (some w.heap.size))) (w.alloc (.map #[] 0)) := by
  have hn := ready_no hi
  obtain ⟨d1, d2, d3, d4, d5, d6, d7⟩ := h.dep
  refine ⟨b1, w.heap.size, L, by simpa using h.sz, ⟨h.act.1, by simpa [Act.put] using h.act.2⟩, cl_set hi h.cl, slots_put h.act.2 (d := 10) (by decide) rfl h.slots (fun d' hd hne hl => ?_), h.bel.alloc h.bel.size _, fun hl => ?_, fun _ => ⟨h.bel.size, #[], 0, heap_alloc_new w _, fun e he => by simp at he, fun p hp hl => ?_⟩, fun k _ => ?_, fun k => ?_⟩
  · rcases twenty hd with rfl | rfl | rfl | rfl | rfl | rfl | rfl | rfl | rfl | rfl | rfl | rfl | rfl | rfl | rfl | rfl | rfl | rfl | rfl | rfl
    all_goals first | rfl | exact absurd rfl hne | exact absurd (d2 hl) hn | exact absurd (d2 (d3 hl).2) hn
  · obtain ⟨g1, g2⟩ := h.m1 ((LT.ne (by decide)).1 hl)
    exact ⟨g1, g2.stay (fun hb => Below.heap_alloc _ _ _ hb) (fun p hp => LT.ne (by have := idx1 hp; simp at this; omega))⟩
  · have := idx2 hp
    simp at this
    exact absurd (d7 p hp ((LT.ne (by omega)).1 hl)) hn
  · obtain ⟨g1, g2⟩ := h.m1 ((LT.ne (by decide)).1 k)
    exact Nat.ne_of_lt g2.lt
  · exact absurd (d2 (d3 (d4 ((LT.ne (by decide)).1 k))).2) hn
theorem NL.box {w0 : World} {l : Array Bool} {a : Act} {w : World} {b1 b2 L : Nat} (h : NL w0 l a w b1 b2 L) (hi : 28 ∈ Region.ready .any nlOps l) (h27 : LT l 27) : NLE w0 (l.setIfInBounds 28 true) (a.put (some 19) (.pointer (some ⟨w.heap.size, 0, none⟩))) (w.alloc (.cells #[.slice none 0 0, .bool false, .map (some b1), .map (some b2)] 59)) := by
  have hn := ready_no hi
  obtain ⟨d1, d2, d3, d4, d5, d6, d7⟩ := h.dep
  refine ⟨b1, b2, w.heap.size, by simpa using h.sz, ⟨h.act.1, by simpa [Act.put] using h.act.2⟩, cl_set hi h.cl, slots_put h.act.2 (d := 19) (by decide) rfl h.slots (fun d' hd hne hl => ?_), h.bel.alloc h.bel.size _, fun hl => ?_, fun hl => ?_, fun k1 k2 => h.ne ((LT.ne (by decide)).1 k1) ((LT.ne (by decide)).1 k2), fun k => ⟨h.bel.size, heap_alloc_new w _⟩⟩
  · rcases twenty hd with rfl | rfl | rfl | rfl | rfl | rfl | rfl | rfl | rfl | rfl | rfl | rfl | rfl | rfl | rfl | rfl | rfl | rfl | rfl | rfl
    all_goals first | rfl | exact absurd rfl hne | exact absurd (d5 hl) hn
  · obtain ⟨g1, g2⟩ := h.m1 ((LT.ne (by decide)).1 hl)
    exact ⟨g1, g2.stay (fun hb => Below.heap_alloc _ _ _ hb) (fun p hp => LT.ne (by have := idx1 hp; simp at this; omega))⟩
  · obtain ⟨g1, g2⟩ := h.m2 ((LT.ne (by decide)).1 hl)
    exact ⟨g1, g2.stay (fun hb => Below.heap_alloc _ _ _ hb) (fun p hp => LT.ne (by have := idx2 hp; simp at this; omega))⟩
theorem MapIn.push {w : World} {b : Nat} {l : Array Bool} {T : List (Nat × Value × Value)} {es : Array MapEntry} {c i : Nat} {k v : Value} (hb : w.heap[b]? = some (.map es c)) (h2 : ∀ e ∈ es.toList, ∃ p ∈ T, LT l p.1 ∧ e.key = p.2.1 ∧ e.val = p.2.2) (h3 : ∀ p ∈ T, LT l p.1 → ∃ e ∈ es.toList, e.key = p.2.1 ∧ e.val = p.2.2)
    (hi : i < l.size) (hT : (i, k, v) ∈ T) (hu : ∀ p ∈ T, p.1 = i → p = (i, k, v)) : MapIn (w.putObj b (.map (es.push { key := k, val := v, born := c }) (c + 1))) b (l.setIfInBounds i true) T := by
  refine ⟨_, _, World.putObj_heap_same (Array.getElem?_eq_some_iff.1 hb).1, fun e he => ?_, fun p hp hl => ?_⟩
  · rw [Array.toList_push, List.mem_append] at he
    rcases he with he | he
    · obtain ⟨p, hp, q1, q2⟩ := h2 e he
      exact ⟨p, hp, q1.mono, q2⟩
    · simp only [List.mem_singleton] at he
      subst he
      exact ⟨_, hT, LT.same hi, rfl, rfl⟩
  · by_cases e : p.1 = i
    · obtain rfl := hu p hp e
      exact ⟨⟨k, v, c⟩, by simp, rfl, rfl⟩
    · obtain ⟨x, hx, q⟩ := h3 p hp ((LT.ne (Ne.symm e)).1 hl)
      exact ⟨x, by rw [Array.toList_push]; exact List.mem_append_left _ hx, q⟩
theorem uniq1 : ∀ p ∈ insT1, ∀ q ∈ insT1, (p.1 = q.1 → p = q) ∧ (p.2.1 = q.2.1 → p = q) := by
  intro p hp q hq
  simp only [insT1, List.mem_cons, List.not_mem_nil, or_false] at hp hq
  rcases hp with rfl | rfl | rfl | rfl | rfl | rfl | rfl <;> rcases hq with rfl | rfl | rfl | rfl | rfl | rfl | rfl <;> simp
theorem uniq2 : ∀ p ∈ insT2, ∀ q ∈ insT2, (p.1 = q.1 → p = q) ∧ (p.2.1 = q.2.1 → p = q) := by
  intro p hp q hq
  simp only [insT2, List.mem_cons, List.not_mem_nil, or_false] at hp hq
  rcases hp with rfl | rfl | rfl <;> rcases hq with rfl | rfl | rfl <;> simp
theorem src_ins : ∀ d, d < 20 → ∀ j ∈ [2, 4, 6, 8, 10, 12, 14, 19, 22, 25], j ≠ nlSrc d := by decide
theorem below_put {n : Nat} {a W : World} {D : Nat} {o : Obj} (h : Below n a W) (hD : n ≤ D) : Below n a (W.putObj D o) :=
  h.trans ⟨rfl, rfl, rfl, by simp, fun k hk => World.putObj_heap_other (by omega)⟩
theorem NL.ins1 {w0 : World} {l : Array Bool} {a : Act} {w : World} {b1 b2 L i : Nat} {k v : Value} (h : NL w0 l a w b1 b2 L) (hi : i ∈ Region.ready .any nlOps l) (hT : (i, k, v) ∈ insT1) (h0 : LT l 0) :
    ∃ w2, (Instr.mapUpdate 56 (.map (some b1)) k v).run Tryz.prog w = .ok () w2 ∧ NLE w0 (l.setIfInBounds i true) a w2 := by
  have hn := ready_no hi
  have hx := idx1 hT
  simp at hx
  obtain ⟨g1, es, c, hb, h2, h3⟩ := h.m1 h0
  have hk : ∃ n, k = .int .i64 n := by
    have := hT
    simp only [insT1, List.mem_cons, List.not_mem_nil, or_false, Prod.mk.injEq] at this
    rcases this with ⟨_, rfl, _⟩ | ⟨_, rfl, _⟩ | ⟨_, rfl, _⟩ | ⟨_, rfl, _⟩ | ⟨_, rfl, _⟩ | ⟨_, rfl, _⟩ | ⟨_, rfl, _⟩ <;> exact ⟨_, rfl⟩
  obtain ⟨n, rfl⟩ := hk
  have hint : ∀ e ∈ es.toList, ∃ m, e.key = .int .i64 m := fun e he => by
    obtain ⟨p, hp, _, q, _⟩ := h2 e he
    simp only [insT1, List.mem_cons, List.not_mem_nil, or_false] at hp
    rcases hp with rfl | rfl | rfl | rfl | rfl | rfl | rfl <;> exact ⟨_, q⟩
  have hno : ∀ e ∈ es.toList, e.key ≠ .int .i64 n := fun e he hk => by
    obtain ⟨p, hp, q1, q, _⟩ := h2 e he
    have := (uniq1 p hp _ hT).2 (by rw [← q, hk])
    subst this
    exact hn q1
  refine ⟨_, upd_new Tryz.underlying56 hb (fun e => ckI w e 9999 n) (findK_int Tryz.underlying3 n _ hint) hno, b1, b2, L, by simpa using h.sz, h.act, cl_set hi h.cl, fun d hd hl => h.slots d hd ((LT.ne (src_ins d hd i (by simp; omega))).1 hl), below_put h.bel g1, fun _ => ⟨g1, MapIn.push hb h2 h3 (ready_lt hi) hT (fun p hp e => (uniq1 p hp _ hT).1 e)⟩, fun hl => ?_, fun k1 k2 => h.ne h0 ((LT.ne (by omega)).1 k2), fun k => ?_⟩
  · have hl' := (LT.ne (show i ≠ 16 by omega)).1 hl
    obtain ⟨g3, g4⟩ := h.m2 hl'
    exact ⟨g3, g4.stay (fun _ => World.putObj_heap_other (Ne.symm (h.ne h0 hl'))) (fun p hp => LT.ne (by have := idx2 hp; simp at this; omega))⟩
  · obtain ⟨g3, g4⟩ := h.bx ((LT.ne (show i ≠ 28 by omega)).1 k)
    exact ⟨g3, (World.putObj_heap_other (fun e => by subst e; rw [hb] at g4; cases g4)).trans g4⟩
theorem NL.ins2 {w0 : World} {l : Array Bool} {a : Act} {w : World} {b1 b2 L i : Nat} {k v : Value} (h : NL w0 l a w b1 b2 L) (hi : i ∈ Region.ready .any nlOps l) (hT : (i, k, v) ∈ insT2) (h0 : LT l 16) :
    ∃ w2, (Instr.mapUpdate 57 (.map (some b2)) k v).run Tryz.prog w = .ok () w2 ∧ NLE w0 (l.setIfInBounds i true) a w2 := by
  have hn := ready_no hi
  have hx := idx2 hT
  simp at hx
  obtain ⟨g1, es, c, hb, h2, h3⟩ := h.m2 h0
  have hk : ∃ n m, k = .agg #[.int .i64 n, .int .i64 m, .string ⟨#[]⟩] := by
    have := hT
    simp only [insT2, List.mem_cons, List.not_mem_nil, or_false, Prod.mk.injEq] at this
    rcases this with ⟨_, rfl, _⟩ | ⟨_, rfl, _⟩ | ⟨_, rfl, _⟩ <;> exact ⟨_, _, rfl⟩
  obtain ⟨n, m, rfl⟩ := hk
  have hno : ∀ e ∈ es.toList, e.key ≠ .agg #[.int .i64 n, .int .i64 m, .string ⟨#[]⟩] := fun e he hk => by
    obtain ⟨p, hp, q1, q, _⟩ := h2 e he
    have := (uniq2 p hp _ hT).2 (by rw [← q, hk])
    subst this
    exact hn q1
  have hint : ∀ e ∈ es.toList, ∃ r : Bool, (Op.equal 47 (.agg #[.int .i64 n, .int .i64 m, .string ⟨#[]⟩]) e.key).run Tryz.prog w = .ok r w ∧ (r = true ↔ e.key = .agg #[.int .i64 n, .int .i64 m, .string ⟨#[]⟩]) := fun e he => by
    obtain ⟨p, hp, _, q, _⟩ := h2 e he
    simp only [insT2, List.mem_cons, List.not_mem_nil, or_false] at hp
    rcases hp with rfl | rfl | rfl <;> (rw [q]; refine ⟨_, eqOp w _ _ _ _ _ _, ?_⟩; simp; omega)
  have hf : FindK Tryz.prog w 47 (.agg #[.int .i64 n, .int .i64 m, .string ⟨#[]⟩]) es.toList := by
    have he := run_findKey_eq (P := Tryz.prog) w (k := 47) (by rw [Tryz.underlying47]) (.agg #[.int .i64 n, .int .i64 m, .string ⟨#[]⟩]) es.toList
    unfold FindK
    rw [he]
    exact findAsk es.toList 0 hint
  refine ⟨_, upd_new Tryz.underlying57 hb (fun e => ckOp w e 9998 n m _) hf hno, b1, b2, L, by simpa using h.sz, h.act, cl_set hi h.cl, fun d hd hl => h.slots d hd ((LT.ne (src_ins d hd i (by simp; omega))).1 hl), below_put h.bel g1, fun hl => ?_, fun _ => ⟨g1, MapIn.push hb h2 h3 (ready_lt hi) hT (fun p hp e => (uniq2 p hp _ hT).1 e)⟩, fun k1 k2 => h.ne ((LT.ne (by omega)).1 k1) h0, fun k => ?_⟩
  · have hl' := (LT.ne (show i ≠ 0 by omega)).1 hl
    obtain ⟨g3, g4⟩ := h.m1 hl'
    exact ⟨g3, g4.stay (fun _ => World.putObj_heap_other (h.ne hl' h0)) (fun p hp => LT.ne (by have := idx1 hp; simp at this; omega))⟩
  · obtain ⟨g3, g4⟩ := h.bx ((LT.ne (show i ≠ 28 by omega)).1 k)
    exact ⟨g3, (World.putObj_heap_other (fun e => by subst e; rw [hb] at g4; cases g4)).trans g4⟩

theorem nls0 (w0 : World) : NS w0 0 := by
  intro Q l a w b1 b2 L h hi
  have dep := ready_dep nlo0 hi
  refine wpOp_step nlo0 (fun K hK => ?_)
  simp only [nlp0, Region.wanted, if_true]
  have g := h.mk1 hi
  have hmm := @run_makeMap Tryz.prog
  go_simp
  exact hK _ _ g
theorem nls1 (w0 : World) : NS w0 1 := by
  intro Q l a w b1 b2 L h hi
  have dep := ready_dep nlo1 hi
  refine wpOp_step nlo1 (fun K hK => ?_)
  simp only [nlp1, Region.wanted, if_true]
  have g : NLE w0 (l.setIfInBounds 1 true) (a.put (some 2) (nlVal b1 b2 L 2)) w := ⟨b1, b2, L, h.pure 1 2 (by decide) rfl hi (by decide)⟩
  simp only [nlVal] at g
  go_simp
  exact hK _ _ g
theorem nls2 (w0 : World) : NS w0 2 := by
  intro Q l a w b1 b2 L h hi
  have dep := ready_dep nlo2 hi
  have e1 : a.tmps[1]? = some (.map (some b1)) := h.slots 1 (by decide) (dep ⟨0, .data⟩ (by simp [nlp2]) rfl)
  have e1 : a.eval (.tmp 1) = .map (some b1) := h.ev 1 (by decide) (dep ⟨0, .data⟩ (by simp [nlp2]) rfl)
  have e2 : a.tmps[2]? = some (.agg #[.string M.kOut]) := h.slots 2 (by decide) (dep ⟨1, .data⟩ (by simp [nlp2]) rfl)
  have e2 : a.eval (.tmp 2) = .agg #[.string M.kOut] := h.ev 2 (by decide) (dep ⟨1, .data⟩ (by simp [nlp2]) rfl)
  obtain ⟨w2, hr, g⟩ := h.ins1 hi (k := .int .i64 8) (v := .agg #[.string M.kOut]) (by simp [insT1]) (dep ⟨0, .data⟩ (by simp [nlp2]) rfl)
  refine wpOp_step nlo2 (fun K hK => ?_)
  simp only [nlp2, Region.wanted, if_true]
  have g2 := hK _ _ g
  have ec : ∀ v, a.eval (.const v) = v := fun _ => rfl
  unfold Oper.wp
  simp [execOp, e1, e2, ec, hr, Result.andThen]
  exact g2
theorem nls3 (w0 : World) : NS w0 3 := by
  intro Q l a w b1 b2 L h hi
  have dep := ready_dep nlo3 hi
  refine wpOp_step nlo3 (fun K hK => ?_)
  simp only [nlp3, Region.wanted, if_true]
  have g : NLE w0 (l.setIfInBounds 3 true) (a.put (some 3) (nlVal b1 b2 L 3)) w := ⟨b1, b2, L, h.pure 3 3 (by decide) rfl hi (by decide)⟩
  simp only [nlVal] at g
  go_simp
  exact hK _ _ g
theorem nls4 (w0 : World) : NS w0 4 := by
  intro Q l a w b1 b2 L h hi
  have dep := ready_dep nlo4 hi
  have e1 : a.tmps[1]? = some (.map (some b1)) := h.slots 1 (by decide) (dep ⟨0, .data⟩ (by simp [nlp4]) rfl)
  have e1 : a.eval (.tmp 1) = .map (some b1) := h.ev 1 (by decide) (dep ⟨0, .data⟩ (by simp [nlp4]) rfl)
  have e3 : a.tmps[3]? = some (.agg #[.string M.kReturn]) := h.slots 3 (by decide) (dep ⟨3, .data⟩ (by simp [nlp4]) rfl)
  have e3 : a.eval (.tmp 3) = .agg #[.string M.kReturn] := h.ev 3 (by decide) (dep ⟨3, .data⟩ (by simp [nlp4]) rfl)
  obtain ⟨w2, hr, g⟩ := h.ins1 hi (k := .int .i64 11) (v := .agg #[.string M.kReturn]) (by simp [insT1]) (dep ⟨0, .data⟩ (by simp [nlp4]) rfl)
  refine wpOp_step nlo4 (fun K hK => ?_)
  simp only [nlp4, Region.wanted, if_true]
  have g2 := hK _ _ g
  have ec : ∀ v, a.eval (.const v) = v := fun _ => rfl
  unfold Oper.wp
  simp [execOp, e1, e3, ec, hr, Result.andThen]
  exact g2
theorem nls5 (w0 : World) : NS w0 5 := by
  intro Q l a w b1 b2 L h hi
  have dep := ready_dep nlo5 hi
  refine wpOp_step nlo5 (fun K hK => ?_)
  simp only [nlp5, Region.wanted, if_true]
  have g : NLE w0 (l.setIfInBounds 5 true) (a.put (some 4) (nlVal b1 b2 L 4)) w := ⟨b1, b2, L, h.pure 5 4 (by decide) rfl hi (by decide)⟩
  simp only [nlVal] at g
  go_simp
  exact hK _ _ g
theorem nls6 (w0 : World) : NS w0 6 := by
  intro Q l a w b1 b2 L h hi
  have dep := ready_dep nlo6 hi
  have e1 : a.tmps[1]? = some (.map (some b1)) := h.slots 1 (by decide) (dep ⟨0, .data⟩ (by simp [nlp6]) rfl)
  have e1 : a.eval (.tmp 1) = .map (some b1) := h.ev 1 (by decide) (dep ⟨0, .data⟩ (by simp [nlp6]) rfl)
  have e4 : a.tmps[4]? = some (.agg #[.string M.kIf]) := h.slots 4 (by decide) (dep ⟨5, .data⟩ (by simp [nlp6]) rfl)
  have e4 : a.eval (.tmp 4) = .agg #[.string M.kIf] := h.ev 4 (by decide) (dep ⟨5, .data⟩ (by simp [nlp6]) rfl)
  obtain ⟨w2, hr, g⟩ := h.ins1 hi (k := .int .i64 9) (v := .agg #[.string M.kIf]) (by simp [insT1]) (dep ⟨0, .data⟩ (by simp [nlp6]) rfl)
  refine wpOp_step nlo6 (fun K hK => ?_)
  simp only [nlp6, Region.wanted, if_true]
  have g2 := hK _ _ g
  have ec : ∀ v, a.eval (.const v) = v := fun _ => rfl
  unfold Oper.wp
  simp [execOp, e1, e4, ec, hr, Result.andThen]
  exact g2
theorem nls7 (w0 : World) : NS w0 7 := by
  intro Q l a w b1 b2 L h hi
  have dep := ready_dep nlo7 hi
  refine wpOp_step nlo7 (fun K hK => ?_)
  simp only [nlp7, Region.wanted, if_true]
  have g : NLE w0 (l.setIfInBounds 7 true) (a.put (some 5) (nlVal b1 b2 L 5)) w := ⟨b1, b2, L, h.pure 7 5 (by decide) rfl hi (by decide)⟩
  simp only [nlVal] at g
  go_simp
  exact hK _ _ g
theorem nls8 (w0 : World) : NS w0 8 := by
  intro Q l a w b1 b2 L h hi
  have dep := ready_dep nlo8 hi
  have e1 : a.tmps[1]? = some (.map (some b1)) := h.slots 1 (by decide) (dep ⟨0, .data⟩ (by simp [nlp8]) rfl)
  have e1 : a.eval (.tmp 1) = .map (some b1) := h.ev 1 (by decide) (dep ⟨0, .data⟩ (by simp [nlp8]) rfl)
  have e5 : a.tmps[5]? = some (.agg #[.string M.kWhile]) := h.slots 5 (by decide) (dep ⟨7, .data⟩ (by simp [nlp8]) rfl)
  have e5 : a.eval (.tmp 5) = .agg #[.string M.kWhile] := h.ev 5 (by decide) (dep ⟨7, .data⟩ (by simp [nlp8]) rfl)
  obtain ⟨w2, hr, g⟩ := h.ins1 hi (k := .int .i64 10) (v := .agg #[.string M.kWhile]) (by simp [insT1]) (dep ⟨0, .data⟩ (by simp [nlp8]) rfl)
  refine wpOp_step nlo8 (fun K hK => ?_)
  simp only [nlp8, Region.wanted, if_true]
  have g2 := hK _ _ g
  have ec : ∀ v, a.eval (.const v) = v := fun _ => rfl
  unfold Oper.wp
  simp [execOp, e1, e5, ec, hr, Result.andThen]
  exact g2
theorem nls9 (w0 : World) : NS w0 9 := by
  intro Q l a w b1 b2 L h hi
  have dep := ready_dep nlo9 hi
  refine wpOp_step nlo9 (fun K hK => ?_)
  simp only [nlp9, Region.wanted, if_true]
  have g : NLE w0 (l.setIfInBounds 9 true) (a.put (some 6) (nlVal b1 b2 L 6)) w := ⟨b1, b2, L, h.pure 9 6 (by decide) rfl hi (by decide)⟩
  simp only [nlVal] at g
  go_simp
  exact hK _ _ g
theorem nls10 (w0 : World) : NS w0 10 := by
  intro Q l a w b1 b2 L h hi
  have dep := ready_dep nlo10 hi
  have e1 : a.tmps[1]? = some (.map (some b1)) := h.slots 1 (by decide) (dep ⟨0, .data⟩ (by simp [nlp10]) rfl)
  have e1 : a.eval (.tmp 1) = .map (some b1) := h.ev 1 (by decide) (dep ⟨0, .data⟩ (by simp [nlp10]) rfl)
  have e6 : a.tmps[6]? = some (.agg #[.string M.kIn]) := h.slots 6 (by decide) (dep ⟨9, .data⟩ (by simp [nlp10]) rfl)
  have e6 : a.eval (.tmp 6) = .agg #[.string M.kIn] := h.ev 6 (by decide) (dep ⟨9, .data⟩ (by simp [nlp10]) rfl)
  obtain ⟨w2, hr, g⟩ := h.ins1 hi (k := .int .i64 7) (v := .agg #[.string M.kIn]) (by simp [insT1]) (dep ⟨0, .data⟩ (by simp [nlp10]) rfl)
  refine wpOp_step nlo10 (fun K hK => ?_)
  simp only [nlp10, Region.wanted, if_true]
  have g2 := hK _ _ g
  have ec : ∀ v, a.eval (.const v) = v := fun _ => rfl
  unfold Oper.wp
  simp [execOp, e1, e6, ec, hr, Result.andThen]
  exact g2
theorem nls11 (w0 : World) : NS w0 11 := by
  intro Q l a w b1 b2 L h hi
  have dep := ready_dep nlo11 hi
  refine wpOp_step nlo11 (fun K hK => ?_)
  simp only [nlp11, Region.wanted, if_true]
  have g : NLE w0 (l.setIfInBounds 11 true) (a.put (some 7) (nlVal b1 b2 L 7)) w := ⟨b1, b2, L, h.pure 11 7 (by decide) rfl hi (by decide)⟩
  simp only [nlVal] at g
  go_simp
  exact hK _ _ g
theorem nls12 (w0 : World) : NS w0 12 := by
  intro Q l a w b1 b2 L h hi
  have dep := ready_dep nlo12 hi
  have e1 : a.tmps[1]? = some (.map (some b1)) := h.slots 1 (by decide) (dep ⟨0, .data⟩ (by simp [nlp12]) rfl)
  have e1 : a.eval (.tmp 1) = .map (some b1) := h.ev 1 (by decide) (dep ⟨0, .data⟩ (by simp [nlp12]) rfl)
  have e7 : a.tmps[7]? = some (.agg #[.string M.kCall]) := h.slots 7 (by decide) (dep ⟨11, .data⟩ (by simp [nlp12]) rfl)
  have e7 : a.eval (.tmp 7) = .agg #[.string M.kCall] := h.ev 7 (by decide) (dep ⟨11, .data⟩ (by simp [nlp12]) rfl)
  obtain ⟨w2, hr, g⟩ := h.ins1 hi (k := .int .i64 5) (v := .agg #[.string M.kCall]) (by simp [insT1]) (dep ⟨0, .data⟩ (by simp [nlp12]) rfl)
  refine wpOp_step nlo12 (fun K hK => ?_)
  simp only [nlp12, Region.wanted, if_true]
  have g2 := hK _ _ g
  have ec : ∀ v, a.eval (.const v) = v := fun _ => rfl
  unfold Oper.wp
  simp [execOp, e1, e7, ec, hr, Result.andThen]
  exact g2
theorem nls13 (w0 : World) : NS w0 13 := by
  intro Q l a w b1 b2 L h hi
  have dep := ready_dep nlo13 hi
  refine wpOp_step nlo13 (fun K hK => ?_)
  simp only [nlp13, Region.wanted, if_true]
  have g : NLE w0 (l.setIfInBounds 13 true) (a.put (some 8) (nlVal b1 b2 L 8)) w := ⟨b1, b2, L, h.pure 13 8 (by decide) rfl hi (by decide)⟩
  simp only [nlVal] at g
  go_simp
  exact hK _ _ g
theorem nls14 (w0 : World) : NS w0 14 := by
  intro Q l a w b1 b2 L h hi
  have dep := ready_dep nlo14 hi
  have e1 : a.tmps[1]? = some (.map (some b1)) := h.slots 1 (by decide) (dep ⟨0, .data⟩ (by simp [nlp14]) rfl)
  have e1 : a.eval (.tmp 1) = .map (some b1) := h.ev 1 (by decide) (dep ⟨0, .data⟩ (by simp [nlp14]) rfl)
  have e8 : a.tmps[8]? = some (.agg #[.string M.kNew]) := h.slots 8 (by decide) (dep ⟨13, .data⟩ (by simp [nlp14]) rfl)
  have e8 : a.eval (.tmp 8) = .agg #[.string M.kNew] := h.ev 8 (by decide) (dep ⟨13, .data⟩ (by simp [nlp14]) rfl)
  obtain ⟨w2, hr, g⟩ := h.ins1 hi (k := .int .i64 4) (v := .agg #[.string M.kNew]) (by simp [insT1]) (dep ⟨0, .data⟩ (by simp [nlp14]) rfl)
  refine wpOp_step nlo14 (fun K hK => ?_)
  simp only [nlp14, Region.wanted, if_true]
  have g2 := hK _ _ g
  have ec : ∀ v, a.eval (.const v) = v := fun _ => rfl
  unfold Oper.wp
  simp [execOp, e1, e8, ec, hr, Result.andThen]
  exact g2
theorem nls15 (w0 : World) : NS w0 15 := by
  intro Q l a w b1 b2 L h hi
  have dep := ready_dep nlo15 hi
  have e1 : a.tmps[1]? = some (.map (some b1)) := h.slots 1 (by decide) (dep ⟨0, .data⟩ (by simp [nlp15]) rfl)
  refine wpOp_step nlo15 (fun K hK => ?_)
  simp only [nlp15, Region.wanted, if_true]
  have g : NLE w0 (l.setIfInBounds 15 true) (a.put (some 9) (nlVal b1 b2 L 9)) w := ⟨b1, b2, L, h.pure 15 9 (by decide) rfl hi (by decide)⟩
  simp only [nlVal] at g
  go_simp
  exact hK _ _ g
theorem nls16 (w0 : World) : NS w0 16 := by
  intro Q l a w b1 b2 L h hi
  have dep := ready_dep nlo16 hi
  refine wpOp_step nlo16 (fun K hK => ?_)
  simp only [nlp16, Region.wanted, if_true]
  have g := h.mk2 hi
  have hmm := @run_makeMap Tryz.prog
  go_simp
  exact hK _ _ g
theorem nls17 (w0 : World) : NS w0 17 := by
  intro Q l a w b1 b2 L h hi
  have dep := ready_dep nlo17 hi
  refine wpOp_step nlo17 (fun K hK => ?_)
  simp only [nlp17, Region.wanted, if_true]
  have g : NLE w0 (l.setIfInBounds 17 true) (a.put (some 11) (nlVal b1 b2 L 11)) w := ⟨b1, b2, L, h.pure 17 11 (by decide) rfl hi (by decide)⟩
  simp only [nlVal] at g
  go_simp
  exact hK _ _ g
theorem nls18 (w0 : World) : NS w0 18 := by
  intro Q l a w b1 b2 L h hi
  have dep := ready_dep nlo18 hi
  refine wpOp_step nlo18 (fun K hK => ?_)
  simp only [nlp18, Region.wanted, if_true]
  have g : NLE w0 (l.setIfInBounds 18 true) (a.put (some 12) (nlVal b1 b2 L 12)) w := ⟨b1, b2, L, h.pure 18 12 (by decide) rfl hi (by decide)⟩
  simp only [nlVal] at g
  go_simp
  exact hK _ _ g
theorem nls19 (w0 : World) : NS w0 19 := by
  intro Q l a w b1 b2 L h hi
  have dep := ready_dep nlo19 hi
  have e10 : a.tmps[10]? = some (.map (some b2)) := h.slots 10 (by decide) (dep ⟨16, .data⟩ (by simp [nlp19]) rfl)
  have e10 : a.eval (.tmp 10) = .map (some b2) := h.ev 10 (by decide) (dep ⟨16, .data⟩ (by simp [nlp19]) rfl)
  have e11 : a.tmps[11]? = some (.agg #[.int .i64 0, .int .i64 0, .string ⟨#[]⟩]) := h.slots 11 (by decide) (dep ⟨17, .data⟩ (by simp [nlp19]) rfl)
  have e11 : a.eval (.tmp 11) = .agg #[.int .i64 0, .int .i64 0, .string ⟨#[]⟩] := h.ev 11 (by decide) (dep ⟨17, .data⟩ (by simp [nlp19]) rfl)
  have e12 : a.tmps[12]? = some (.agg #[.string M.kNull]) := h.slots 12 (by decide) (dep ⟨18, .data⟩ (by simp [nlp19]) rfl)
  have e12 : a.eval (.tmp 12) = .agg #[.string M.kNull] := h.ev 12 (by decide) (dep ⟨18, .data⟩ (by simp [nlp19]) rfl)
  obtain ⟨w2, hr, g⟩ := h.ins2 hi (k := .agg #[.int .i64 0, .int .i64 0, .string ⟨#[]⟩]) (v := .agg #[.string M.kNull]) (by simp [insT2]) (dep ⟨16, .data⟩ (by simp [nlp19]) rfl)
  refine wpOp_step nlo19 (fun K hK => ?_)
  simp only [nlp19, Region.wanted, if_true]
  have g2 := hK _ _ g
  have ec : ∀ v, a.eval (.const v) = v := fun _ => rfl
  unfold Oper.wp
  simp [execOp, e10, e11, e12, ec, hr, Result.andThen]
  exact g2
theorem nls20 (w0 : World) : NS w0 20 := by
  intro Q l a w b1 b2 L h hi
  have dep := ready_dep nlo20 hi
  refine wpOp_step nlo20 (fun K hK => ?_)
  simp only [nlp20, Region.wanted, if_true]
  have g : NLE w0 (l.setIfInBounds 20 true) (a.put (some 13) (nlVal b1 b2 L 13)) w := ⟨b1, b2, L, h.pure 20 13 (by decide) rfl hi (by decide)⟩
  simp only [nlVal] at g
  go_simp
  exact hK _ _ g
theorem nls21 (w0 : World) : NS w0 21 := by
  intro Q l a w b1 b2 L h hi
  have dep := ready_dep nlo21 hi
  refine wpOp_step nlo21 (fun K hK => ?_)
  simp only [nlp21, Region.wanted, if_true]
  have g : NLE w0 (l.setIfInBounds 21 true) (a.put (some 14) (nlVal b1 b2 L 14)) w := ⟨b1, b2, L, h.pure 21 14 (by decide) rfl hi (by decide)⟩
  simp only [nlVal] at g
  go_simp
  exact hK _ _ g
theorem nls22 (w0 : World) : NS w0 22 := by
  intro Q l a w b1 b2 L h hi
  have dep := ready_dep nlo22 hi
  have e10 : a.tmps[10]? = some (.map (some b2)) := h.slots 10 (by decide) (dep ⟨16, .data⟩ (by simp [nlp22]) rfl)
  have e10 : a.eval (.tmp 10) = .map (some b2) := h.ev 10 (by decide) (dep ⟨16, .data⟩ (by simp [nlp22]) rfl)
  have e13 : a.tmps[13]? = some (.agg #[.int .i64 1, .int .i64 0, .string ⟨#[]⟩]) := h.slots 13 (by decide) (dep ⟨20, .data⟩ (by simp [nlp22]) rfl)
  have e13 : a.eval (.tmp 13) = .agg #[.int .i64 1, .int .i64 0, .string ⟨#[]⟩] := h.ev 13 (by decide) (dep ⟨20, .data⟩ (by simp [nlp22]) rfl)
  have e14 : a.tmps[14]? = some (.agg #[.string M.kFalse]) := h.slots 14 (by decide) (dep ⟨21, .data⟩ (by simp [nlp22]) rfl)
  have e14 : a.eval (.tmp 14) = .agg #[.string M.kFalse] := h.ev 14 (by decide) (dep ⟨21, .data⟩ (by simp [nlp22]) rfl)
  obtain ⟨w2, hr, g⟩ := h.ins2 hi (k := .agg #[.int .i64 1, .int .i64 0, .string ⟨#[]⟩]) (v := .agg #[.string M.kFalse]) (by simp [insT2]) (dep ⟨16, .data⟩ (by simp [nlp22]) rfl)
  refine wpOp_step nlo22 (fun K hK => ?_)
  simp only [nlp22, Region.wanted, if_true]
  have g2 := hK _ _ g
  have ec : ∀ v, a.eval (.const v) = v := fun _ => rfl
  unfold Oper.wp
  simp [execOp, e10, e13, e14, ec, hr, Result.andThen]
  exact g2
theorem nls23 (w0 : World) : NS w0 23 := by
  intro Q l a w b1 b2 L h hi
  have dep := ready_dep nlo23 hi
  refine wpOp_step nlo23 (fun K hK => ?_)
  simp only [nlp23, Region.wanted, if_true]
  have g : NLE w0 (l.setIfInBounds 23 true) (a.put (some 15) (nlVal b1 b2 L 15)) w := ⟨b1, b2, L, h.pure 23 15 (by decide) rfl hi (by decide)⟩
  simp only [nlVal] at g
  go_simp
  exact hK _ _ g
theorem nls24 (w0 : World) : NS w0 24 := by
  intro Q l a w b1 b2 L h hi
  have dep := ready_dep nlo24 hi
  refine wpOp_step nlo24 (fun K hK => ?_)
  simp only [nlp24, Region.wanted, if_true]
  have g : NLE w0 (l.setIfInBounds 24 true) (a.put (some 16) (nlVal b1 b2 L 16)) w := ⟨b1, b2, L, h.pure 24 16 (by decide) rfl hi (by decide)⟩
  simp only [nlVal] at g
  go_simp
  exact hK _ _ g
theorem nls25 (w0 : World) : NS w0 25 := by
  intro Q l a w b1 b2 L h hi
  have dep := ready_dep nlo25 hi
  have e10 : a.tmps[10]? = some (.map (some b2)) := h.slots 10 (by decide) (dep ⟨16, .data⟩ (by simp [nlp25]) rfl)
  have e10 : a.eval (.tmp 10) = .map (some b2) := h.ev 10 (by decide) (dep ⟨16, .data⟩ (by simp [nlp25]) rfl)
  have e15 : a.tmps[15]? = some (.agg #[.int .i64 1, .int .i64 1, .string ⟨#[]⟩]) := h.slots 15 (by decide) (dep ⟨23, .data⟩ (by simp [nlp25]) rfl)
  have e15 : a.eval (.tmp 15) = .agg #[.int .i64 1, .int .i64 1, .string ⟨#[]⟩] := h.ev 15 (by decide) (dep ⟨23, .data⟩ (by simp [nlp25]) rfl)
  have e16 : a.tmps[16]? = some (.agg #[.string M.kTrue]) := h.slots 16 (by decide) (dep ⟨24, .data⟩ (by simp [nlp25]) rfl)
  have e16 : a.eval (.tmp 16) = .agg #[.string M.kTrue] := h.ev 16 (by decide) (dep ⟨24, .data⟩ (by simp [nlp25]) rfl)
  obtain ⟨w2, hr, g⟩ := h.ins2 hi (k := .agg #[.int .i64 1, .int .i64 1, .string ⟨#[]⟩]) (v := .agg #[.string M.kTrue]) (by simp [insT2]) (dep ⟨16, .data⟩ (by simp [nlp25]) rfl)
  refine wpOp_step nlo25 (fun K hK => ?_)
  simp only [nlp25, Region.wanted, if_true]
  have g2 := hK _ _ g
  have ec : ∀ v, a.eval (.const v) = v := fun _ => rfl
  unfold Oper.wp
  simp [execOp, e10, e15, e16, ec, hr, Result.andThen]
  exact g2
theorem nls26 (w0 : World) : NS w0 26 := by
  intro Q l a w b1 b2 L h hi
  have dep := ready_dep nlo26 hi
  have e10 : a.tmps[10]? = some (.map (some b2)) := h.slots 10 (by decide) (dep ⟨16, .data⟩ (by simp [nlp26]) rfl)
  refine wpOp_step nlo26 (fun K hK => ?_)
  simp only [nlp26, Region.wanted, if_true]
  have g : NLE w0 (l.setIfInBounds 26 true) (a.put (some 17) (nlVal b1 b2 L 17)) w := ⟨b1, b2, L, h.pure 26 17 (by decide) rfl hi (by decide)⟩
  simp only [nlVal] at g
  go_simp
  exact hK _ _ g
theorem nls27 (w0 : World) : NS w0 27 := by
  intro Q l a w b1 b2 L h hi
  have dep := ready_dep nlo27 hi
  have e9 : a.tmps[9]? = some (.map (some b1)) := h.slots 9 (by decide) (dep ⟨15, .data⟩ (by simp [nlp27]) rfl)
  have e17 : a.tmps[17]? = some (.map (some b2)) := h.slots 17 (by decide) (dep ⟨26, .data⟩ (by simp [nlp27]) rfl)
  refine wpOp_step nlo27 (fun K hK => ?_)
  simp only [nlp27, Region.wanted, if_true]
  have g : NLE w0 (l.setIfInBounds 27 true) (a.put (some 18) (nlVal b1 b2 L 18)) w := ⟨b1, b2, L, h.pure 27 18 (by decide) rfl hi (by decide)⟩
  simp only [nlVal] at g
  go_simp
  exact hK _ _ g
theorem nls28 (w0 : World) : NS w0 28 := by
  intro Q l a w b1 b2 L h hi
  have dep := ready_dep nlo28 hi
  have e18 : a.tmps[18]? = some (.agg #[.slice none 0 0, .bool false, .map (some b1), .map (some b2)]) := h.slots 18 (by decide) (dep ⟨27, .data⟩ (by simp [nlp28]) rfl)
  refine wpOp_step nlo28 (fun K hK => ?_)
  simp only [nlp28, Region.wanted, if_true]
  have g := h.box hi (dep ⟨27, .data⟩ (by simp [nlp28]) rfl)
  go_simp
  exact hK _ _ g
theorem nls29 (w0 : World) : NS w0 29 := by
  intro Q l a w b1 b2 L h hi
  have dep := ready_dep nlo29 hi
  have e19 : a.tmps[19]? = some (.pointer (some ⟨L, 0, none⟩)) := h.slots 19 (by decide) (dep ⟨28, .data⟩ (by simp [nlp29]) rfl)
  refine wpOp_step nlo29 (fun K hK => ?_)
  simp only [nlp29, Region.wanted, if_true]
  have g : NLE w0 (l.setIfInBounds 29 true) (a.put (some 0) (nlVal b1 b2 L 0)) w := ⟨b1, b2, L, h.pure 29 0 (by decide) rfl hi (by decide)⟩
  simp only [nlVal] at g
  go_simp
  exact hK _ _ g
theorem nls_all {w0 : World} {Q : Exit → Act → World → Prop} {l : Array Bool} {a : Act} {w : World} (h : NLE w0 l a w) (i : Nat) (hi : i ∈ Region.ready .any nlOps l) : wpOp Tryz.prog nlOps Q i (NLE w0 (l.setIfInBounds i true)) a w := by
  obtain ⟨b1, b2, L, h⟩ := h
  have hlt : i < 30 := by have := ready_lt hi; have := h.sz; omega
  rcases (show i = 0 ∨ i = 1 ∨ i = 2 ∨ i = 3 ∨ i = 4 ∨ i = 5 ∨ i = 6 ∨ i = 7 ∨ i = 8 ∨ i = 9 ∨ i = 10 ∨ i = 11 ∨ i = 12 ∨ i = 13 ∨ i = 14 ∨ i = 15 ∨ i = 16 ∨ i = 17 ∨ i = 18 ∨ i = 19 ∨ i = 20 ∨ i = 21 ∨ i = 22 ∨ i = 23 ∨ i = 24 ∨ i = 25 ∨ i = 26 ∨ i = 27 ∨ i = 28 ∨ i = 29 by omega) with rfl | rfl | rfl | rfl | rfl | rfl | rfl | rfl | rfl | rfl | rfl | rfl | rfl | rfl | rfl | rfl | rfl | rfl | rfl | rfl | rfl | rfl | rfl | rfl | rfl | rfl | rfl | rfl | rfl | rfl
  · exact nls0 w0 h hi
  · exact nls1 w0 h hi
  · exact nls2 w0 h hi
  · exact nls3 w0 h hi
  · exact nls4 w0 h hi
  · exact nls5 w0 h hi
  · exact nls6 w0 h hi
  · exact nls7 w0 h hi
  · exact nls8 w0 h hi
  · exact nls9 w0 h hi
  · exact nls10 w0 h hi
  · exact nls11 w0 h hi
  · exact nls12 w0 h hi
  · exact nls13 w0 h hi
  · exact nls14 w0 h hi
  · exact nls15 w0 h hi
  · exact nls16 w0 h hi
  · exact nls17 w0 h hi
  · exact nls18 w0 h hi
  · exact nls19 w0 h hi
  · exact nls20 w0 h hi
  · exact nls21 w0 h hi
  · exact nls22 w0 h hi
  · exact nls23 w0 h hi
  · exact nls24 w0 h hi
  · exact nls25 w0 h hi
  · exact nls26 w0 h hi
  · exact nls27 w0 h hi
  · exact nls28 w0 h hi
  · exact nls29 w0 h hi
theorem nlOps_up : ∀ (i : Nat) (o : Oper), nlOps[i]? = some o → ∀ e ∈ o.after, e.on < i := by
  have h : (List.range 30).all (fun i => (nlOps[i]?).all fun o => o.after.all fun e => decide (e.on < i)) = true := by kernel_rfl
  intro i o ho e he
  have hi : i < 30 := (Array.getElem?_eq_some_iff.1 ho).1
  have := List.all_eq_true.1 h i (List.mem_range.2 hi)
  rw [ho] at this
  simp only [Option.all_some, Array.all_eq_true_iff_forall_mem, decide_eq_true_eq] at this
  exact this e he
theorem LT.no {n i : Nat} : ¬ LT (Array.replicate n false) i := by
  unfold LT
  rw [Array.getD_eq_getD_getElem?, Array.getElem?_replicate]
  split <;> simp
theorem MapIn.all {w : World} {b : Nat} {l : Array Bool} {T : List (Nat × Value × Value)} (h : MapIn w b l T) (hall : ∀ p ∈ T, LT l p.1) : MapAt (T.map (·.2)) w b := by
  obtain ⟨es, c, h1, h2, h3⟩ := h
  refine ⟨es, c, h1, fun e he => ?_, fun p hp => ?_⟩
  · obtain ⟨p, hp, _, q⟩ := h2 e he
    exact ⟨p.2, List.mem_map_of_mem hp, q⟩
  · obtain ⟨q, hq, rfl⟩ := List.mem_map.1 hp
    exact h3 q hq (hall q hq)
set_option maxHeartbeats 1000000 in
theorem newLayer_any (w : World) (htab : Lib.TabIs Tryz.prog w "internal/strconv.uint64pow10" .u64 Lib.pow10Tab) : Calls Tryz.prog 25 #[] w fun e w' => ∃ L X, e = .returned (.pointer (some ⟨L, 0, none⟩)) ∧ Lay w.heap.size w' X L (some []) ∧ Below w.heap.size w w' := by
  go_enter Tryz.func25, Tryz.ntmps25
  go_wp2_with fail
  refine wp_region_any (ops := nlOps) (by kernel_rfl) ?_
  refine wpAny_inv (NLE w) (fun l a w' h => nls_all h) ?_ _ _ _ _ (by decide) ?_
  · intro l a w' h hr
    obtain ⟨b1, b2, L, h⟩ := h
    have hall := all_listed (by rw [h.sz]; rfl) nlOps_up hr
    obtain ⟨t, df⟩ := a
    obtain ⟨hdf, hsz⟩ := h.act
    simp only at hdf hsz
    subst hdf
    have h0 := h.slots 0 (by decide) (hall 29 (by decide))
    simp only [nlVal] at h0
    have hbx := h.bx (hall 28 (by decide))
    have hm1 := h.m1 (hall 0 (by decide))
    have hm2 := h.m2 (hall 16 (by decide))
    have ha1 : MapAt wordT w' b1 := hm1.2.all (fun p hp => hall p.1 (by have := idx1 hp; simp at this; show p.1 < 30; omega))
    have ha2 : MapAt operT w' b2 := hm2.2.all (fun p hp => hall p.1 (by have := idx2 hp; simp at this; show p.1 < 30; omega))
    clear hr hall
    go_wp2_with fail
    refine bodyPost_ret (v := .pointer (some ⟨L, 0, none⟩)) (by simp [results, Tryz.results25, go_sem, h0]) rfl ⟨L, fun k => k = L, rfl, ⟨rfl, fun k hk => ?_, (TabB.of htab).keep h.bel.size (fun k hk _ => h.bel.block k hk), .slice none 0 0, b1, b2, [], hbx.2, ⟨ha1, fun e => ?_⟩, ⟨ha2, fun e => ?_⟩, fun b' e => by cases e; rfl, by simp, World.ownsRow_nil _ _ _ _, fun k hk => by simp [Value.ownBlock] at hk⟩, h.bel⟩
    · subst hk; exact ⟨hbx.1, (Array.getElem?_eq_some_iff.1 hbx.2).1⟩
    · obtain ⟨es, c, h1, _⟩ := ha1
      rw [e, hbx.2] at h1; cases h1
    · obtain ⟨es, c, h1, _⟩ := ha2
      rw [e, hbx.2] at h1; cases h1
  · exact ⟨0, 0, 0, rfl, ⟨rfl, rfl⟩, fun i o _ hl => absurd hl LT.no, fun d _ hl => absurd hl LT.no, (Below.refl _ _).drew, fun hl => absurd hl LT.no, fun hl => absurd hl LT.no, fun hl => absurd hl LT.no, fun hl => absurd hl LT.no⟩
end Go.Proofs.YtkpmpnebmkeocaaGreatDoor

