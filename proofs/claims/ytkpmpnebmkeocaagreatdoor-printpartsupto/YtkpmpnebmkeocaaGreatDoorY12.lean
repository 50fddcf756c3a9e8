/-
  The walk of print.Stmt. Conditions: what the statement is in memory; that operands' numbers are some; that the table of powers lies as it should.
-/
import Derived.Test.YtkpmpnebmkeocaaGreatDoorY11
set_option linter.unusedVariables false
set_option linter.unusedSimpArgs false
namespace Go.Proofs.YtkpmpnebmkeocaaGreatDoor
open Go.RowKit

def aloneP (t : M.Tr) : List M.Fn := [⟨M.ch 102, [], t⟩]
def stT (t : M.Tr) : ByteArray := if prB (aloneP t) = true then ⟨(M.bytesB (M.laidTr t)).dropLast.toArray⟩ else ⟨#[]⟩
theorem st_fits {t : M.Tr} (h : prB (aloneP t) = true) : (M.bytesB (M.laidTr t)).length ≤ 65536 := by
  unfold prB M.printed at h
  cases hl : M.layP (some []) (aloneP t) with
  | none => rw [hl] at h; cases h
  | some b =>
    have h2 : M.nlM (M.putsM (some []) (M.laidFn ⟨M.ch 102, [], t⟩)) = some b := hl
    cases hp : M.putsM (some []) (M.laidFn ⟨M.ch 102, [], t⟩) with
    | none => rw [hp] at h2; cases h2
    | some c =>
      rw [M.putsM_some _ [] (by simp)] at hp
      split at hp
      · rename_i hle
        have e : M.laidFn ⟨M.ch 102, [], t⟩ = [M.kFun, M.ch 102, M.ch 40, M.ch 41, M.ch 123] ++ (M.laidTr t ++ [M.ch 125]) := rfl
        rw [e, M.bytesB_app, M.bytesB_app] at hle
        simp only [List.length_append, List.length_nil] at hle
        omega
      · cases hp
theorem bytesB_end {l : List ByteArray} (h : l ≠ []) : ∃ c, M.bytesB l = c ++ [32] := by
  obtain ⟨m, t, rfl⟩ : ∃ m t, l = m ++ [t] := ⟨l.dropLast, l.getLast h, (List.dropLast_concat_getLast h).symm⟩
  rw [M.bytesB_app]
  exact ⟨M.bytesB m ++ t.data.toList, by simp [M.bytesB]⟩
theorem laidSt_ne (op : Int) (x y p : ByteArray) (a : List M.Opd) (pr : List ByteArray) (th el : M.Tr) : laidSt op x y p a pr th el ≠ [] := by
  rw [laidSt_eq]
  split
  · simp [laidIf]
  · split
    · simp
    · split <;> simp
theorem trim_end (c : List UInt8) : Lib.trimSuffix (c ++ [32]) [32] = c := by
  unfold Lib.trimSuffix Lib.hasSuffix
  rw [if_pos (by simp)]
  simp
set_option maxRecDepth 8000 in
set_option maxHeartbeats 4000000 in
theorem pstmt_any (w : World) (op : Int) (x y p : ByteArray) (va vp vt ve : Value) (a : List M.Opd) (pr : List ByteArray) (th el : M.Tr) (hA : OpsAt w NoX va a) (hP : StrsAt w NoX vp pr) (hT : StmAt w NoX vt th) (hE : StmAt w NoX ve el) (hr : ∀ o ∈ a, InI o.n) (r1 : RngT th) (r2 : RngT el) (htab : TabW w) :
    Calls Tryz.prog 15 #[.agg #[.int .i64 op, .string x, .string y, .string p, va, vp, vt, ve]] w fun e w' => e = .returned (.string (stT (M.one op x y p a pr th el))) ∧ Below w.heap.size w w' := by
  obtain ⟨a1, c1, rfl⟩ := SlAt.form hA
  obtain ⟨a2, c2, rfl⟩ := SlAt.form hP
  obtain ⟨a3, c3, rfl⟩ := StmAt.form hT
  obtain ⟨a4, c4, rfl⟩ := StmAt.form hE
  obtain ⟨o1, ho1⟩ : ∃ o1 : Obj, o1 = .cells #[.int .i64 op, .string x, .string y, .string p, .slice a1 a.length c1, .slice a2 pr.length c2, .slice a3 th.len c3, .slice a4 el.len c4] 32 (0, 0) := ⟨_, rfl⟩
  obtain ⟨o3, ho3⟩ : ∃ o3 : Obj, o3 = .cells #[.string ⟨#[102]⟩, .slice none 0 0, .slice (some ⟨w.heap.size + 1, 0, none⟩) 1 1] 34 (0, 0) := ⟨_, rfl⟩
  obtain ⟨o4, ho4⟩ : ∃ o4 : Obj, o4 = .cells #[.slice (some ⟨w.heap.size + 1 + 1, 0, none⟩) 1 1] 24 (0, 0) := ⟨_, rfl⟩
  have hb0 : Below w.heap.size w ((((w.alloc o1).alloc o1).alloc o3).alloc o4) := ((((Below.refl _ w).alloc (Nat.le_refl _) _).alloc (by simp) _).alloc (by simp; omega) _).alloc (by simp; omega) _
  have e0 : ((((w.alloc o1).alloc o1).alloc o3).alloc o4).heap[w.heap.size]? = some o1 := heap_al (heap_al (heap_al (heap_alloc_new w o1)))
  have e1 : ((((w.alloc o1).alloc o1).alloc o3).alloc o4).heap[w.heap.size + 1]? = some o1 := by
    have := heap_alloc_new (w.alloc o1) o1
    rw [World.size_alloc] at this
    exact heap_al (heap_al this)
  have e2 : ((((w.alloc o1).alloc o1).alloc o3).alloc o4).heap[w.heap.size + 1 + 1]? = some o3 := by
    have := heap_alloc_new ((w.alloc o1).alloc o1) o3
    rw [World.size_alloc, World.size_alloc] at this
    exact heap_al this
  have e3 : ((((w.alloc o1).alloc o1).alloc o3).alloc o4).heap[w.heap.size + 1 + 1 + 1]? = some o4 := by
    have := heap_alloc_new (((w.alloc o1).alloc o1).alloc o3) o4
    rw [World.size_alloc, World.size_alloc, World.size_alloc] at this
    exact this
  have htW := htab.below hb0
  have hAW := SlAt.keep hA (Below.keepX hb0)
  have hPW := SlAt.keep hP (Below.keepX hb0)
  have hTW := hT.keep (Below.keepX hb0)
  have hEW := hE.keep (Below.keepX hb0)
  have HW : Hid (((((w.alloc o1).alloc o1).alloc o3).alloc o4) = ((((w.alloc (.cells #[.int .i64 op, .string x, .string y, .string p, .slice a1 a.length c1, .slice a2 pr.length c2, .slice a3 th.len c3, .slice a4 el.len c4] 32)).alloc (.cells #[.int .i64 op, .string x, .string y, .string p, .slice a1 a.length c1, .slice a2 pr.length c2, .slice a3 th.len c3, .slice a4 el.len c4] 32)).alloc (.cells #[.string ⟨#[102]⟩, .slice none 0 0, .slice (some ⟨w.heap.size + 1, 0, none⟩) 1 1] 34)).alloc (.cells #[.slice (some ⟨w.heap.size + 1 + 1, 0, none⟩) 1 1] 24))) := by unfold Hid; rw [ho1, ho3, ho4]
  have HW2 := HW
  generalize ((((w.alloc o1).alloc o1).alloc o3).alloc o4) = W at *
  subst ho1 ho3 ho4
  have hst : StmAt W NoX (.slice (some ⟨w.heap.size + 1, 0, none⟩) 1 1) (M.one op x y p a pr th el) := ⟨_, slAt_heap [.int .i64 op, .string x, .string y, .string p, .slice a1 a.length c1, .slice a2 pr.length c2, .slice a3 th.len c3, .slice a4 el.len c4] e1 (by show 1 ≤ _; omega) (by show 1 ≤ 1 ∧ 1 ≤ maxLen; simp [maxLen]), RowAt.one hAW hPW hTW hEW⟩
  have hpg : ProgAt W NoX (.slice (some ⟨w.heap.size + 1 + 1, 0, none⟩) 1 1) (aloneP (M.one op x y p a pr th el)) := ⟨_, slAt_heap [.string ⟨#[102]⟩, .slice none 0 0, .slice (some ⟨w.heap.size + 1, 0, none⟩) 1 1] e2 (by show 1 ≤ _; omega) (by show 1 ≤ 1 ∧ 1 ≤ maxLen; simp [maxLen]), ⟨_, _, [], rfl, StrsAt.nil _ _, hst, rfl⟩⟩
  have hrg : RngP (aloneP (M.one op x y p a pr th el)) := fun f hf => by
    simp only [aloneP, List.mem_singleton] at hf
    subst hf
    exact ⟨hr, r1, r2, trivial⟩
  go_enter Tryz.func15, Tryz.ntmps15
  go_wp2_with (go_at_call 11; refine stopHere ?_)
  refine stopAt ?_
  rw [← HW2.out]
  refine (pmay_any W _ _ hpg hrg htW).mono ?_
  rintro e w1 ⟨rfl, hb1⟩
  have hB1 := hb0.trans (hb1.mono hb0.size)
  have hs1 := kept hb1 e0
  cases hpb : prB (aloneP (M.one op x y p a pr th el)) with
  | false =>
    have HT : Hid (stT (M.one op x y p a pr th el) = ⟨#[]⟩) := by unfold Hid stT; rw [if_neg (by rw [hpb]; simp)]
    go_wp2_with fail
    go_ret
    exact ⟨(congrArg (fun z => Ending.returned (.string z)) HT.out).symm, hB1⟩
  | true =>
    have HT : Hid (stT (M.one op x y p a pr th el) = ⟨(M.bytesB (laidSt op x y p a pr th el)).dropLast.toArray⟩) := by unfold Hid stT; rw [if_pos hpb]; rfl
    have hfit : (M.bytesB (laidSt op x y p a pr th el)).length ≤ 65536 := st_fits hpb
    have HF : Hid (M.putsM (some []) (laidSt op x y p a pr th el) = some (M.bytesB (laidSt op x y p a pr th el))) := by
      unfold Hid
      rw [M.putsM_some _ [] (by simp), if_pos (by simpa using hfit)]; rfl
    go_wp2_with (go_at_call 25; refine stopHere ?_)
    refine stopAt ?_
    refine (newLayer_any w1 (htW.below hb1)).mono ?_
    rintro e w2 ⟨L, X, rfl, hL, hb2⟩
    have hb12 := hb1.trans (hb2.mono hb1.size)
    have hs2 := kept hb2 hs1
    obtain ⟨m0, m1, m2, m3, m4, m5, m6, m7, mf, mz⟩ := cells8 hs2
    have hwk : ∀ b, b < w1.heap.size → ¬ NoX b → ¬ Hi w1.heap.size b := fun b hb _ => by unfold Hi; omega
    have hSA : StA w1.heap.size (.slice a1 a.length c1) (.slice a2 pr.length c2) (.slice a3 th.len c3) (.slice a4 el.len c4) a pr th el w2 :=
      ⟨SlAt.keep (SlAt.weak (SlAt.keep hAW (Below.keepX hb1)) hwk) (Below.keepX hb2), SlAt.keep (SlAt.weak (SlAt.keep hPW (Below.keepX hb1)) hwk) (Below.keepX hb2), ((hTW.keep (Below.keepX hb1)).weak hwk).keep (Below.keepX hb2), ((hEW.keep (Below.keepX hb1)).weak hwk).keep (Below.keepX hb2)⟩
    go_wp2_with (go_at_call 26; refine stopHere ?_)
    refine stopAt ?_
    refine (lstmt_any w1.heap.size w2 X L (th.sz + el.sz) (some []) op x y p _ _ _ _ a pr th el (lblockC _ _ _) (by omega) (by omega) r1 r2 hL hSA hr).mono ?_
    rintro e w3 ⟨rfl, X3, l3, t3, x3⟩
    have hB3 : Below w.heap.size w w3 := (hB1.trans (hb2.mono hB1.size)).trans ((t3.belowB (fun k hk => (hL.far k hk).1) hb2.size).mono hB1.size)
    rw [HF.out] at l3
    have HC : Hid (∃ c, M.bytesB (laidSt op x y p a pr th el) = c ++ [32]) := bytesB_end (laidSt_ne op x y p a pr th el)
    generalize M.bytesB (laidSt op x y p a pr th el) = bb at l3 HT HC hfit HF
    obtain ⟨hX, hf, tb, v, mw, mo, bs, z1, z2, z3, z6, z7, z8, z9⟩ := l3
    obtain rfl := z6 _ rfl
    have hcv := conv_own z8
    obtain ⟨va2, vc2, rfl⟩ := own_form z8
    simp only [Option.isNone_some] at z1
    obtain ⟨d0, d1, d2, d3, df, dz⟩ := cells4 z1
    clear m0 m1 m2 m3 m4 m5 m6 m7 mf
    go_wp2_with (go_at_call 27; refine stopHere ?_)
    refine stopAt ?_
    refine (Tryz.strings_TrimSuffix ⟨bb.toArray⟩ ⟨#[32]⟩ w3 (by show bb.toArray.size ≤ _; rw [List.size_toArray]; omega)).mono ?_
    rintro e w4 ⟨rfl, rfl⟩
    have ht : Lib.trimSuffix (⟨bb.toArray⟩ : ByteArray).data.toList (⟨#[32]⟩ : ByteArray).data.toList = bb.dropLast := by
      obtain ⟨c, hc⟩ := HC.out
      subst hc
      rw [List.dropLast_concat]
      exact trim_end c
    rw [ht]
    go_wp2_with fail
    go_ret
    exact ⟨(congrArg (fun z => Ending.returned (.string z)) HT.out).symm, hB3⟩
end Go.Proofs.YtkpmpnebmkeocaaGreatDoor
