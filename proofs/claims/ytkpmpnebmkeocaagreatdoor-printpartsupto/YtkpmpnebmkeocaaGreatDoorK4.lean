/-
  Lists of statements that come in: what lies in memory where an argument is read as such a list. No conditions.
-/
import Derived.Test.YtkpmpnebmkeocaaGreatDoorN1
import Derived.Test.YtkpmpnebmkeocaaGreatDoorY8
import Derived.ProofKit
import Derived.OpenShut
import Derived.ShutString
import Derived.JoinedCond
import Derived.Deep.Slices
import Derived.Deep.Strs
set_option linter.unusedVariables false
set_option linter.unusedSimpArgs false
namespace Go.Proofs.YtkpmpnebmkeocaaGreatDoor
open Go.ChangeShapes Go.WideShapes Go.ChangeAt Go.RowKit
open Go.ChangeMaps (open_string shut_string)
open Go.Deep (open_slice choose_lt add_add)

structure It where
  nd : M.Nd
  va : Value
  vp : Value
  vt : Value
  ve : Value
def It.at (w : World) (x : It) : Prop := OpsAt w NoX x.va x.nd.a ∧ StrsAt w NoX x.vp x.nd.pr ∧ StmAt w NoX x.vt x.nd.th ∧ StmAt w NoX x.ve x.nd.el
theorem own : ownKnob Tryz.prog.godebug = none := by kernel_rfl
theorem laidOut : laidOutB Tryz.prog = true := by kernel_rfl
theorem cellsSt : Tryz.prog.cellsOf 32 = 8 := by kernel_rfl
theorem cellsOp : Tryz.prog.cellsOf 47 = 3 := by kernel_rfl
theorem cellsI : Tryz.prog.cellsOf 3 = 1 := by kernel_rfl
theorem cellsS : Tryz.prog.cellsOf 9 = 1 := by kernel_rfl
theorem cellsSl : Tryz.prog.cellsOf 30 = 1 := by kernel_rfl
theorem cellsSo : Tryz.prog.cellsOf 28 = 1 := by kernel_rfl
theorem cellsSs : Tryz.prog.cellsOf 29 = 1 := by kernel_rfl

theorem wf_in {n : Int} (h : (Lit.int .i64 n).wf = true) : InI n := by
  have h2 : (decide ((-9223372036854775808 : Int) ≤ n) && decide (n ≤ 9223372036854775807)) = true := h
  simp only [Bool.and_eq_true, decide_eq_true_eq] at h2
  exact h2
theorem add_at (b o k : Nat) : (⟨b, o, none⟩ : Addr).add k = ⟨b, o + k, none⟩ := by
  unfold Addr.add
  split
  · rename_i h; rw [h]; rfl
  · rfl
theorem sl_of {W : World} {a : Addr} {len cap s : Nat} {cs : List Value} (hl : cs.length = len * s) (hs : 0 < s) (hn : len ≤ 4398046511104) (hc : len ≤ cap) (hm : cap ≤ maxLen) (h : ∀ k u, cs[k]? = some u → W.cell? (a.add k) = some u) : SlAt W NoX (.slice (some a) len cap) len cs := by
  refine ⟨hn, some a, cap, rfl, ?_⟩
  rcases Nat.eq_zero_or_pos len with h0 | h0
  · left
    subst h0
    exact ⟨rfl, List.length_eq_zero_iff.1 (by omega)⟩
  · right
    have hpos : 0 < cs.length := by rw [hl]; exact Nat.mul_pos h0 hs
    have h1 := h 0 cs[0] (by simp)
    obtain ⟨b, o, spot⟩ := a
    have hspot : spot = none := by simpa [Addr.add] using World.cell?_spot h1
    subst hspot
    have hblk : b < W.heap.size := by
      have := World.block_lt_of_cell? W _ h1
      simpa [Addr.add] using this
    refine ⟨b, o, rfl, hblk, ⟨fun h => h, hc, hm⟩, fun i u hu => ?_⟩
    have := h i u hu
    rwa [add_at] at this
theorem fm_len {f : Nat → List Value} {s : Nat} (hf : ∀ i, (f i).length = s) : ∀ n, ((List.range n).flatMap f).length = n * s
  | 0 => by simp
  | n + 1 => by rw [List.range_succ, List.flatMap_append, List.length_append, fm_len hf n]; simp [hf, Nat.add_mul]
theorem fm_get {f : Nat → List Value} {s : Nat} (hs : 0 < s) (hf : ∀ i, (f i).length = s) : ∀ (n k : Nat) (u : Value), ((List.range n).flatMap f)[k]? = some u → ∃ i r, i < n ∧ k = i * s + r ∧ (f i)[r]? = some u
  | 0, k, u, h => by simp at h
  | n + 1, k, u, h => by
    rw [List.range_succ, List.flatMap_append] at h
    by_cases hk : k < n * s
    · rw [List.getElem?_append_left (by rw [fm_len hf]; exact hk)] at h
      obtain ⟨i, r, h1, h2, h3⟩ := fm_get hs hf n k u h
      exact ⟨i, r, by omega, h2, h3⟩
    · rw [List.getElem?_append_right (by rw [fm_len hf]; omega), fm_len hf] at h
      refine ⟨n, k - n * s, by omega, by omega, by simpa using h⟩

set_option maxRecDepth 100000 in
theorem strs_of_trod {H : Type} {enc : TypeId × Value → H} {W : World} {fuel : Nat} {v : Value} {d : DataW H} {p : List MemPlace}
    (hf : DataW.trod enc Tryz.prog W 0 (fun _ => true) true fuel 29 [v] = some (d, p)) (hk : Rows.uptoBulk d ≤ 1048576) : ∃ l, StrsAt W NoX v l ∧ l.length ≤ Rows.uptoBulk d := by
  rcases open_slice Tryz.underlying29 hf with ⟨hcs, hx⟩ | ⟨a, len, cap, m, n, D, Pl, hcs, _, hl, hm, hmm, hx, hel⟩
  · simp only [List.cons.injEq, and_true] at hcs
    subst hcs
    exact ⟨[], StrsAt.nil _ _, Nat.zero_le _⟩
  · simp only [List.cons.injEq, and_true] at hcs
    subst hcs
    simp only [if_true] at hmm
    have hmc : m = cap := hmm
    clear hmm
    subst hmc
    have each : ∀ i, i < len → ∃ x : ByteArray, W.cell? (a.add i) = some (.string x) ∧ 1 ≤ Rows.uptoBulk (D i) := by
      intro i hi
      obtain ⟨cs', h1, h2⟩ := hel i (by omega)
      rw [cellsS] at h1
      obtain ⟨_, hlen, hcell⟩ := World.cells?_some h1
      match cs', hlen with
      | [c0], _ =>
        obtain ⟨t1, e1, r1, w1⟩ := DataW.trod_string Tryz.underlying9 h2
        simp only [List.cons.injEq, and_true, Prod.mk.injEq] at e1 r1
        have d0 := hcell 0 (by omega)
        rw [add_add] at d0
        refine ⟨t1, by rw [← e1]; simpa using d0, ?_⟩
        rw [r1.1]; simp [Rows.uptoBulk]
    obtain ⟨X, hX⟩ := choose_lt each
    have hd : d = .slice ((List.range len).map D) ((List.range (m - len)).map fun j => D (len + j)) := by
      simp only [Prod.mk.injEq] at hx; exact hx.1
    have hb : ∀ k, k ≤ len → k ≤ Rows.uptoBulkAll ((List.range' (len - k) k).map D) := by
      intro k
      induction k with
      | zero => intro _; exact Nat.zero_le _
      | succ k ih =>
        intro hk'
        have h1 := ih (by omega)
        rw [List.range'_succ, List.map_cons, Rows.uptoBulkAll, show len - (k + 1) + 1 = len - k by omega]
        have h2 := (hX (len - (k + 1)) (by omega)).2
        omega
    have hb' := hb len (Nat.le_refl _)
    rw [Nat.sub_self, ← List.range_eq_range'] at hb'
    have hlb : len ≤ Rows.uptoBulk d := by rw [hd]; simp only [Rows.uptoBulk]; omega
    refine ⟨(List.range len).map X, ?_, by simpa using hlb⟩
    show SlAt W NoX _ ((List.range len).map X).length _
    rw [List.length_map, List.length_range]
    refine sl_of (s := 1) (by simp) (by omega) (by omega) hl hm (fun k u hu => ?_)
    simp only [List.getElem?_map] at hu
    by_cases hk2 : k < len
    · rw [List.getElem?_range hk2] at hu
      simp at hu
      rw [← hu]; exact (hX k hk2).1
    · rw [List.getElem?_eq_none (by simpa using hk2)] at hu; simp at hu
theorem bulk_pos {H : Type} (d : DataW H) : 1 ≤ Rows.uptoBulk d := by
  cases d with
  | lit l => cases l <;> simp [Rows.uptoBulk]
  | nil => simp [Rows.uptoBulk]
  | ptr d => simp [Rows.uptoBulk]
  | slice a b => simp [Rows.uptoBulk]
  | agg a => simp [Rows.uptoBulk]
  | iface a b => simp [Rows.uptoBulk]
  | map a => simp [Rows.uptoBulk]
  | held a => simp [Rows.uptoBulk]
theorem bulk_mem {H : Type} (D : Nat → DataW H) (len i : Nat) (hi : i < len) : Rows.uptoBulk (D i) ≤ Rows.uptoBulkAll ((List.range len).map D) := by
  induction len with
  | zero => omega
  | succ n ih =>
    have happ : ∀ l m : List (DataW H), Rows.uptoBulkAll (l ++ m) = Rows.uptoBulkAll l + Rows.uptoBulkAll m := by
      intro l m
      induction l with
      | nil => simp [Rows.uptoBulkAll]
      | cons x r ih => simp only [List.cons_append, Rows.uptoBulkAll, ih]; omega
    rw [List.range_succ, List.map_append, happ]
    simp only [List.map_cons, List.map_nil, Rows.uptoBulkAll]
    by_cases h : i < n
    · have := ih h; omega
    · obtain rfl : i = n := by omega
      omega
theorem bulk_len {H : Type} (D : Nat → DataW H) (len : Nat) (h : ∀ i, i < len → 1 ≤ Rows.uptoBulk (D i)) : ∀ k, k ≤ len → k ≤ Rows.uptoBulkAll ((List.range' (len - k) k).map D) := by
  intro k
  induction k with
  | zero => intro _; exact Nat.zero_le _
  | succ k ih =>
    intro hk'
    have h1 := ih (by omega)
    rw [List.range'_succ, List.map_cons, Rows.uptoBulkAll, show len - (k + 1) + 1 = len - k by omega]
    have h2 := h (len - (k + 1)) (by omega)
    omega
theorem bulk_len' {H : Type} (D : Nat → DataW H) (len : Nat) (h : ∀ i, i < len → 1 ≤ Rows.uptoBulk (D i)) : len ≤ Rows.uptoBulkAll ((List.range len).map D) := by
  have hb' := bulk_len D len h len (Nat.le_refl _)
  rwa [Nat.sub_self, ← List.range_eq_range'] at hb'

set_option maxRecDepth 100000 in
theorem ops_of_trod {H : Type} {enc : TypeId × Value → H} {W : World} {fuel : Nat} {v : Value} {d : DataW H} {p : List MemPlace}
    (hf : DataW.trod enc Tryz.prog W 0 (fun _ => true) true fuel 28 [v] = some (d, p)) (hk : Rows.uptoBulk d ≤ 1048576) : ∃ l, OpsAt W NoX v l ∧ l.length ≤ Rows.uptoBulk d ∧ ∀ o ∈ l, InI o.n := by
  rcases open_slice Tryz.underlying28 hf with ⟨hcs, hx⟩ | ⟨a, len, cap, m, n, D, Pl, hcs, _, hl, hm, hmm, hx, hel⟩
  · simp only [List.cons.injEq, and_true] at hcs
    subst hcs
    exact ⟨[], OpsAt.nil _ _, Nat.zero_le _, fun o ho => by cases ho⟩
  · simp only [List.cons.injEq, and_true] at hcs
    subst hcs
    simp only [if_true] at hmm
    have hmc : m = cap := hmm
    clear hmm
    subst hmc
    have each : ∀ i, i < len → ∃ x : M.Opd, (W.cell? (a.add (i * 3)) = some (.int .i64 x.k) ∧ W.cell? (a.add (i * 3 + 1)) = some (.int .i64 x.n) ∧ W.cell? (a.add (i * 3 + 2)) = some (.string x.s)) ∧ 1 ≤ Rows.uptoBulk (D i) ∧ InI x.n := by
      intro i hi
      obtain ⟨cs', h1, h2⟩ := hel i (by omega)
      rw [cellsOp] at h1
      obtain ⟨_, hlen, hcell⟩ := World.cells?_some h1
      obtain ⟨y0, y1, y2, n', hxy, _, g0, g1, g2⟩ := Deep.trod_struct3 Tryz.underlying47 h2
      match cs', hlen with
      | [c0, c1, c2], _ =>
        simp only [cellsI, cellsS, List.drop_zero, List.drop_succ_cons, List.take_succ_cons, List.take_zero] at g0 g1 g2
        obtain ⟨k0, e0, r0, _⟩ := DataW.trod_int Tryz.underlying3 g0
        obtain ⟨k1, e1, r1, hw1⟩ := DataW.trod_int Tryz.underlying3 g1
        obtain ⟨t2, e2, r2, w2⟩ := DataW.trod_string Tryz.underlying9 g2
        simp only [List.cons.injEq, and_true] at e0 e1 e2
        subst e0 e1 e2
        have d0 := hcell 0 (by omega)
        have d1 := hcell 1 (by omega)
        have d2 := hcell 2 (by omega)
        rw [add_add] at d0 d1 d2
        simp only [Prod.mk.injEq] at hxy
        exact ⟨⟨k0, k1, t2⟩, ⟨by simpa using d0, by simpa using d1, by simpa using d2⟩, by rw [hxy.1]; simp [Rows.uptoBulk], wf_in hw1⟩
    haveI : Inhabited M.Opd := ⟨⟨0, 0, ⟨#[]⟩⟩⟩
    obtain ⟨X, hX⟩ := choose_lt each
    have hd : d = .slice ((List.range len).map D) ((List.range (m - len)).map fun j => D (len + j)) := by
      simp only [Prod.mk.injEq] at hx; exact hx.1
    have hb' := bulk_len' D len (fun i hi => (hX i hi).2.1)
    have hlb : len ≤ Rows.uptoBulk d := by rw [hd]; simp only [Rows.uptoBulk]; omega
    have hin : ∀ o ∈ (List.range len).map X, InI o.n := fun o ho => by
      obtain ⟨i, hi, rfl⟩ := List.mem_map.1 ho
      exact (hX i (List.mem_range.1 hi)).2.2
    refine ⟨(List.range len).map X, ?_, by simpa using hlb, hin⟩
    show SlAt W NoX _ ((List.range len).map X).length _
    rw [List.length_map, List.length_range, List.flatMap_map]
    have hf8 : ∀ i, (opCells (X i)).length = 3 := fun i => rfl
    refine sl_of (s := 3) (fm_len hf8 len) (by omega) (by omega) hl hm (fun k u hu => ?_)
    obtain ⟨i, r, hi, rfl, hr⟩ := fm_get (by omega) hf8 len k u hu
    obtain ⟨c0, c1, c2⟩ := (hX i hi).1
    match r, hr with
    | 0, hr => simp [opCells] at hr; rw [← hr]; exact c0
    | 1, hr => simp [opCells] at hr; rw [← hr]; exact c1
    | 2, hr => simp [opCells] at hr; rw [← hr]; exact c2
    | r + 3, hr => simp [opCells] at hr

theorem trod_struct8 {H : Type} {enc : TypeId × Value → H} {P : Program} {w : World} {base : Nat} {spare : Nat → Bool} {held : Bool} {t : TypeId} {f0 f1 f2 f3 f4 f5 f6 f7 : Field} {fuel : Nat} {cs : List Value} {x : DataW H × List MemPlace} (ht : P.underlying t = some (.struct #[f0, f1, f2, f3, f4, f5, f6, f7])) (h : DataW.trod enc P w base spare held fuel t cs = some x) :
    ∃ (y0 y1 y2 y3 y4 y5 y6 y7 : DataW H × List MemPlace) (n : Nat), x.1 = .agg [y0.1, y1.1, y2.1, y3.1, y4.1, y5.1, y6.1, y7.1] ∧ DataW.trod enc P w base spare held n f0.type ((cs.drop f0.offset).take (P.cellsOf f0.type)) = some y0 ∧
      DataW.trod enc P w base spare held n f1.type ((cs.drop f1.offset).take (P.cellsOf f1.type)) = some y1 ∧ DataW.trod enc P w base spare held n f2.type ((cs.drop f2.offset).take (P.cellsOf f2.type)) = some y2 ∧ DataW.trod enc P w base spare held n f3.type ((cs.drop f3.offset).take (P.cellsOf f3.type)) = some y3 ∧ DataW.trod enc P w base spare held n f4.type ((cs.drop f4.offset).take (P.cellsOf f4.type)) = some y4 ∧ DataW.trod enc P w base spare held n f5.type ((cs.drop f5.offset).take (P.cellsOf f5.type)) = some y5 ∧ DataW.trod enc P w base spare held n f6.type ((cs.drop f6.offset).take (P.cellsOf f6.type)) = some y6 ∧ DataW.trod enc P w base spare held n f7.type ((cs.drop f7.offset).take (P.cellsOf f7.type)) = some y7 := by
  obtain ⟨xs, n, _, rfl, hl, hlen, hf⟩ := DataW.trod_struct ht h
  match xs, hlen with
  | [y0, y1, y2, y3, y4, y5, y6, y7], _ => exact ⟨y0, y1, y2, y3, y4, y5, y6, y7, n, by simp, by simpa using hf 0 f0 rfl, by simpa using hf 1 f1 rfl, by simpa using hf 2 f2 rfl, by simpa using hf 3 f3 rfl, by simpa using hf 4 f4 rfl, by simpa using hf 5 f5 rfl, by simpa using hf 6 f6 rfl, by simpa using hf 7 f7 rfl⟩

def It.cells (x : It) : List Value := [.int .i64 x.nd.op, .string x.nd.x, .string x.nd.y, .string x.nd.p, x.va, x.vp, x.vt, x.ve]
theorem row_of_items {W : World} (X : Nat → It) : ∀ (n i : Nat), (∀ j, i ≤ j → j < i + n → It.at W (X j)) → RowAt W NoX ((List.range' i n).flatMap fun j => (X j).cells) (M.toTr ((List.range' i n).map fun j => (X j).nd))
  | 0, i, _ => rfl
  | n + 1, i, h => by
    rw [List.range'_succ, List.flatMap_cons, List.map_cons]
    obtain ⟨h1, h2, ⟨ct, h3, h4⟩, ⟨ce, h5, h6⟩⟩ := h i (Nat.le_refl _) (by omega)
    exact ⟨_, _, _, _, ct, ce, _, rfl, h1, h2, ⟨h3, h4⟩, ⟨h5, h6⟩, row_of_items X n (i + 1) (fun j a b => h j (by omega) (by omega))⟩
theorem rng_items (X : Nat → It) : ∀ (n i : Nat), (∀ j, i ≤ j → j < i + n → (∀ o ∈ (X j).nd.a, InI o.n) ∧ RngT (X j).nd.th ∧ RngT (X j).nd.el) → RngT (M.toTr ((List.range' i n).map fun j => (X j).nd))
  | 0, i, _ => trivial
  | n + 1, i, h => by
    rw [List.range'_succ, List.map_cons]
    obtain ⟨h1, h3, h4⟩ := h i (Nat.le_refl _) (by omega)
    exact ⟨h1, h3, h4, rng_items X n (i + 1) (fun j a b => h j (by omega) (by omega))⟩
theorem sz_items {H : Type} (X : Nat → It) (D : Nat → DataW H) : ∀ (n i : Nat), (∀ j, i ≤ j → j < i + n → 1 + (X j).nd.th.sz + (X j).nd.el.sz ≤ Rows.uptoBulk (D j)) → (M.toTr ((List.range' i n).map fun j => (X j).nd)).sz ≤ Rows.uptoBulkAll ((List.range' i n).map D)
  | 0, i, _ => Nat.le_refl _
  | n + 1, i, h => by
    rw [List.range'_succ, List.map_cons, List.map_cons]
    have h1 := h i (Nat.le_refl _) (by omega)
    have h2 := sz_items X D n (i + 1) (fun j a b => h j (by omega) (by omega))
    simp only [M.toTr, M.Tr.sz, Rows.uptoBulkAll]
    omega

set_option maxRecDepth 100000 in
set_option maxHeartbeats 1000000 in
theorem stmts_of_trod {H : Type} {enc : TypeId × Value → H} {W : World} : ∀ (N fuel : Nat) (v : Value) (d : DataW H) (p : List MemPlace), DataW.trod enc Tryz.prog W 0 (fun _ => true) true fuel 30 [v] = some (d, p) → Rows.uptoBulk d ≤ N → N ≤ 1048576 → ∃ t, StmAt W NoX v t ∧ t.sz ≤ Rows.uptoBulk d ∧ RngT t := by
  intro N
  induction N with
  | zero =>
    intro fuel v d p hf hk
    have := bulk_pos d
    omega
  | succ N ih =>
    intro fuel v d p hf hk hN
    rcases open_slice Tryz.underlying30 hf with ⟨hcs, hx⟩ | ⟨a, len, cap, m, n, D, Pl, hcs, _, hl, hm, hmm, hx, hel⟩
    · simp only [List.cons.injEq, and_true] at hcs
      subst hcs
      exact ⟨.nil, StmAt.nil _ _, Nat.zero_le _, trivial⟩
    · simp only [List.cons.injEq, and_true] at hcs
      subst hcs
      simp only [if_true] at hmm
      have hmc : m = cap := hmm
      clear hmm
      subst hmc
      have hd : d = .slice ((List.range len).map D) ((List.range (m - len)).map fun j => D (len + j)) := by
        simp only [Prod.mk.injEq] at hx; exact hx.1
      have hall : Rows.uptoBulkAll ((List.range len).map D) + 1 ≤ Rows.uptoBulk d := by rw [hd]; simp only [Rows.uptoBulk]; omega
      have each : ∀ i, i < len → ∃ x : It, (W.cell? (a.add (i * 8)) = some (.int .i64 x.nd.op) ∧ W.cell? (a.add (i * 8 + 1)) = some (.string x.nd.x) ∧ W.cell? (a.add (i * 8 + 2)) = some (.string x.nd.y) ∧ W.cell? (a.add (i * 8 + 3)) = some (.string x.nd.p) ∧ W.cell? (a.add (i * 8 + 4)) = some x.va ∧ W.cell? (a.add (i * 8 + 5)) = some x.vp ∧ W.cell? (a.add (i * 8 + 6)) = some x.vt ∧ W.cell? (a.add (i * 8 + 7)) = some x.ve) ∧ It.at W x ∧ 1 + x.nd.th.sz + x.nd.el.sz ≤ Rows.uptoBulk (D i) ∧ (∀ o ∈ x.nd.a, InI o.n) ∧ RngT x.nd.th ∧ RngT x.nd.el := by
        intro i hi
        have hbi := bulk_mem D len i hi
        obtain ⟨cs', h1, h2⟩ := hel i (by omega)
        rw [cellsSt] at h1
        obtain ⟨_, hlen, hcell⟩ := World.cells?_some h1
        obtain ⟨y0, y1, y2, y3, y4, y5, y6, y7, n', hxy, g0, g1, g2, g3, g4, g5, g6, g7⟩ := trod_struct8 Tryz.underlying32 h2
        simp only at hxy
        match cs', hlen with
        | [c0, c1, c2, c3, c4, c5, c6, c7], _ =>
          simp only [cellsI, cellsS, cellsSl, cellsSo, cellsSs, List.drop_zero, List.drop_succ_cons, List.take_succ_cons, List.take_zero] at g0 g1 g2 g3 g4 g5 g6 g7
          rw [hxy] at hbi ⊢
          simp only [Rows.uptoBulk, Rows.uptoBulkAll] at hbi ⊢
          obtain ⟨k0, e0, r0, _⟩ := DataW.trod_int Tryz.underlying3 g0
          obtain ⟨t1, e1, r1, _⟩ := DataW.trod_string Tryz.underlying9 g1
          obtain ⟨t2, e2, r2, _⟩ := DataW.trod_string Tryz.underlying9 g2
          obtain ⟨t3, e3, r3, _⟩ := DataW.trod_string Tryz.underlying9 g3
          obtain ⟨l4, o4, b4, i4⟩ := ops_of_trod (d := y4.1) (p := y4.2) g4 (by omega)
          obtain ⟨l5, o5, b5⟩ := strs_of_trod (d := y5.1) (p := y5.2) g5 (by omega)
          obtain ⟨t6, o6, b6, f6⟩ := ih n' c6 y6.1 y6.2 g6 (by omega) (by omega)
          obtain ⟨t7, o7, b7, f7⟩ := ih n' c7 y7.1 y7.2 g7 (by omega) (by omega)
          simp only [List.cons.injEq, and_true] at e0 e1 e2 e3
          subst e0 e1 e2 e3
          have d0 := hcell 0 (by omega)
          have d1 := hcell 1 (by omega)
          have d2 := hcell 2 (by omega)
          have d3 := hcell 3 (by omega)
          have d4 := hcell 4 (by omega)
          have d5 := hcell 5 (by omega)
          have d6 := hcell 6 (by omega)
          have d7 := hcell 7 (by omega)
          rw [add_add] at d0 d1 d2 d3 d4 d5 d6 d7
          exact ⟨⟨⟨k0, t1, t2, t3, l4, l5, t6, t7⟩, c4, c5, c6, c7⟩, ⟨by simpa using d0, by simpa using d1, by simpa using d2, by simpa using d3, by simpa using d4, by simpa using d5, by simpa using d6, by simpa using d7⟩, ⟨o4, o5, o6, o7⟩, by simp only; omega, i4, f6, f7⟩
      haveI : Inhabited It := ⟨⟨⟨0, ⟨#[]⟩, ⟨#[]⟩, ⟨#[]⟩, [], [], .nil, .nil⟩, .slice none 0 0, .slice none 0 0, .slice none 0 0, .slice none 0 0⟩⟩
      obtain ⟨X, hX⟩ := choose_lt each
      have hsz := sz_items X D len 0 (fun j _ h => (hX j (by omega)).2.2.1)
      have hb' : len ≤ Rows.uptoBulkAll ((List.range len).map D) := bulk_len' D len (fun i hi => by have := (hX i hi).2.2.1; omega)
      rw [← List.range_eq_range'] at hsz
      refine ⟨M.toTr ((List.range len).map fun j => (X j).nd), ⟨(List.range len).flatMap fun j => (X j).cells, ?_, ?_⟩, by omega, ?_⟩
      · rw [M.toTr_len, List.length_map, List.length_range]
        have hf8 : ∀ i, ((X i).cells).length = 8 := fun i => rfl
        refine sl_of (s := 8) (fm_len hf8 len) (by omega) (by omega) hl hm (fun k u hu => ?_)
        obtain ⟨i, r, hi, rfl, hr⟩ := fm_get (by omega) hf8 len k u hu
        obtain ⟨c0, c1, c2, c3, c4, c5, c6, c7⟩ := (hX i hi).1
        match r, hr with
        | 0, hr => simp [It.cells] at hr; rw [← hr]; exact c0
        | 1, hr => simp [It.cells] at hr; rw [← hr]; exact c1
        | 2, hr => simp [It.cells] at hr; rw [← hr]; exact c2
        | 3, hr => simp [It.cells] at hr; rw [← hr]; exact c3
        | 4, hr => simp [It.cells] at hr; rw [← hr]; exact c4
        | 5, hr => simp [It.cells] at hr; rw [← hr]; exact c5
        | 6, hr => simp [It.cells] at hr; rw [← hr]; exact c6
        | 7, hr => simp [It.cells] at hr; rw [← hr]; exact c7
        | r + 8, hr => simp [It.cells] at hr
      · rw [List.range_eq_range']; exact row_of_items X len 0 (fun j _ h => (hX j (by omega)).2.1)
      · rw [List.range_eq_range']; exact rng_items X len 0 (fun j _ h => (hX j (by omega)).2.2.2)
theorem cellsFn : Tryz.prog.cellsOf 34 = 3 := by kernel_rfl
theorem cellsSf : Tryz.prog.cellsOf 22 = 1 := by kernel_rfl
structure Ft where
  f : M.Fn
  vp : Value
  vb : Value
def Ft.cells (x : Ft) : List Value := [.string x.f.name, x.vp, x.vb]
def Ft.at (w : World) (x : Ft) : Prop := StrsAt w NoX x.vp x.f.ps ∧ StmAt w NoX x.vb x.f.body
theorem row_of_fns {W : World} (X : Nat → Ft) : ∀ (n i : Nat), (∀ j, i ≤ j → j < i + n → Ft.at W (X j)) → FnsAt W NoX ((List.range' i n).flatMap fun j => (X j).cells) ((List.range' i n).map fun j => (X j).f)
  | 0, i, _ => rfl
  | n + 1, i, h => by
    rw [List.range'_succ, List.flatMap_cons, List.map_cons]
    obtain ⟨h1, h2⟩ := h i (Nat.le_refl _) (by omega)
    exact ⟨_, _, _, rfl, h1, h2, row_of_fns X n (i + 1) (fun j a b => h j (by omega) (by omega))⟩
set_option maxRecDepth 100000 in
set_option maxHeartbeats 1000000 in
theorem fns_of_trod {H : Type} {enc : TypeId × Value → H} {W : World} {fuel : Nat} {v : Value} {d : DataW H} {p : List MemPlace} (hf : DataW.trod enc Tryz.prog W 0 (fun _ => true) true fuel 22 [v] = some (d, p)) (hk : Rows.uptoBulk d ≤ 1048576) :
    ∃ l, ProgAt W NoX v l ∧ l.length ≤ Rows.uptoBulk d ∧ (∀ f ∈ l, f.body.sz ≤ 1048576) ∧ (∀ f ∈ l, RngT f.body) := by
  rcases open_slice Tryz.underlying22 hf with ⟨hcs, hx⟩ | ⟨a, len, cap, m, n, D, Pl, hcs, _, hl, hm, hmm, hx, hel⟩
  · simp only [List.cons.injEq, and_true] at hcs
    subst hcs
    exact ⟨[], ⟨[], SlAt.nil _ _, rfl⟩, Nat.zero_le _, fun f hf => (by cases hf), fun f hf => (by cases hf)⟩
  · simp only [List.cons.injEq, and_true] at hcs
    subst hcs
    simp only [if_true] at hmm
    have hmc : m = cap := hmm
    clear hmm
    subst hmc
    have hd : d = .slice ((List.range len).map D) ((List.range (m - len)).map fun j => D (len + j)) := by
      simp only [Prod.mk.injEq] at hx; exact hx.1
    have hall : Rows.uptoBulkAll ((List.range len).map D) + 1 ≤ Rows.uptoBulk d := by rw [hd]; simp only [Rows.uptoBulk]; omega
    have each : ∀ i, i < len → ∃ x : Ft, (W.cell? (a.add (i * 3)) = some (.string x.f.name) ∧ W.cell? (a.add (i * 3 + 1)) = some x.vp ∧ W.cell? (a.add (i * 3 + 2)) = some x.vb) ∧ Ft.at W x ∧ x.f.body.sz ≤ 1048576 ∧ RngT x.f.body ∧ 1 ≤ Rows.uptoBulk (D i) := by
      intro i hi
      have hbi := bulk_mem D len i hi
      obtain ⟨cs', h1, h2⟩ := hel i (by omega)
      rw [cellsFn] at h1
      obtain ⟨_, hlen, hcell⟩ := World.cells?_some h1
      obtain ⟨y0, y1, y2, n', hxy, _, g0, g1, g2⟩ := Deep.trod_struct3 Tryz.underlying34 h2
      match cs', hlen with
      | [c0, c1, c2], _ =>
        simp only [cellsS, cellsSl, cellsSs, List.drop_zero, List.drop_succ_cons, List.take_succ_cons, List.take_zero] at g0 g1 g2
        simp only [Prod.mk.injEq] at hxy
        rw [hxy.1] at hbi ⊢
        simp only [Rows.uptoBulk, Rows.uptoBulkAll] at hbi ⊢
        obtain ⟨t0, e0, r0, _⟩ := DataW.trod_string Tryz.underlying9 g0
        obtain ⟨l1, o1, b1⟩ := strs_of_trod (d := y1.1) (p := y1.2) g1 (by omega)
        obtain ⟨t2, o2, b2, f2⟩ := stmts_of_trod 1048576 n' c2 y2.1 y2.2 g2 (by omega) (Nat.le_refl _)
        simp only [List.cons.injEq, and_true] at e0
        subst e0
        have d0 := hcell 0 (by omega)
        have d1 := hcell 1 (by omega)
        have d2 := hcell 2 (by omega)
        rw [add_add] at d0 d1 d2
        exact ⟨⟨⟨t0, l1, t2⟩, c1, c2⟩, ⟨by simpa using d0, by simpa using d1, by simpa using d2⟩, ⟨o1, o2⟩, by simp only; omega, f2, by omega⟩
    haveI : Inhabited Ft := ⟨⟨⟨⟨#[]⟩, [], .nil⟩, .slice none 0 0, .slice none 0 0⟩⟩
    obtain ⟨X, hX⟩ := choose_lt each
    have hb' : len ≤ Rows.uptoBulkAll ((List.range len).map D) := bulk_len' D len (fun i hi => (hX i hi).2.2.2.2)
    refine ⟨(List.range len).map fun j => (X j).f, ⟨(List.range len).flatMap fun j => (X j).cells, ?_, ?_⟩, by simp; omega, fun f hf => ?_, fun f hf => ?_⟩
    · rw [List.length_map, List.length_range]
      have hf3 : ∀ i, ((X i).cells).length = 3 := fun i => rfl
      refine sl_of (s := 3) (fm_len hf3 len) (by omega) (by omega) hl hm (fun k u hu => ?_)
      obtain ⟨i, r, hi, rfl, hr⟩ := fm_get (by omega) hf3 len k u hu
      obtain ⟨c0, c1, c2⟩ := (hX i hi).1
      match r, hr with
      | 0, hr => simp [Ft.cells] at hr; rw [← hr]; exact c0
      | 1, hr => simp [Ft.cells] at hr; rw [← hr]; exact c1
      | 2, hr => simp [Ft.cells] at hr; rw [← hr]; exact c2
      | r + 3, hr => simp [Ft.cells] at hr
    · rw [List.range_eq_range']; exact row_of_fns X len 0 (fun j _ h => (hX j (by omega)).2.1)
    · obtain ⟨i, hi, rfl⟩ := List.mem_map.1 hf
      exact (hX i (List.mem_range.1 hi)).2.2.1
    · obtain ⟨i, hi, rfl⟩ := List.mem_map.1 hf
      exact (hX i (List.mem_range.1 hi)).2.2.2.1
end Go.Proofs.YtkpmpnebmkeocaaGreatDoor
