/-
  PROVED: the law LexParts holds for every two strings: of two texts of at most 30000 bytes, one behind the other with a byte 10 between, the tokens are those of the one, and then of the other one, but for their places; the first one's fault stays, the second one's stands so much farther on; the call returns true and leaves all that was there as it was. Conditions: none beyond the given statement's own.
-/
import Derived.Test.YtilkkopgbdppjaaK
import Derived.Test.YtilkkopgbdppjaaMathF
import Derived.ProofKit
import Derived.OpenShut
import Derived.ShutString
set_option linter.unusedVariables false
namespace Go.Proofs.Ytilkkopgbdppjaa
open Go.ChangeShapes Go.WideShapes Go.ChangeAt Go.RowKit
open Go.ChangeMaps (open_string shut_string)

namespace LexParts

theorem lexL_error : ∀ (f p : Nat) (l : List UInt8) (e : Nat), M.lexL f p l = .error e → e < p + l.length
  | 0, p, l, e, h => by simp [M.lexL] at h
  | f + 1, p, [], e, h => by simp [M.lexL] at h
  | f + 1, p, c :: r, e, h => by
    unfold M.lexL at h
    cases hn : M.nxt (c :: r) with
    | none => rw [hn] at h; simp only [Except.error.injEq] at h; subst h; simp
    | some q =>
      obtain ⟨k, n⟩ := q
      have hb := M.nxt_bounds hn
      rw [hn] at h
      have hd : p + n + ((c :: r).drop n).length = p + (c :: r).length := by simp only [List.length_drop]; omega
      cases k with
      | none => simp only at h; have := lexL_error f _ _ _ h; omega
      | some k =>
        simp only at h
        cases hr : M.lexL f (p + n) ((c :: r).drop n) with
        | error e' =>
          rw [hr] at h
          simp only [Except.error.injEq] at h
          subst h
          have := lexL_error f _ _ _ hr; omega
        | ok us => rw [hr] at h; cases h

theorem plain_sizes {l : List M.Tok} (h : ∀ x, x ∈ l → x.t.size ≤ maxLen) : ∀ x, x ∈ M.plain l → x.t.size ≤ maxLen := by
  intro x hx
  simp only [M.plain, List.mem_map] at hx
  obtain ⟨y, hy, rfl⟩ := hx
  exact h y hy

theorem join_list (a b : ByteArray) : (a ++ (⟨#[10]⟩ : ByteArray) ++ b).data.toList = a.data.toList ++ (10 :: b.data.toList) := by
  simp

theorem join_size (a b : ByteArray) : (a ++ (⟨#[10]⟩ : ByteArray) ++ b).size = a.size + 1 + b.size := by
  rw [← len_list, join_list]; simp; omega

/-- two cells of a new block, behind whatever keeps it -/
theorem two_cells {w w' : World} {x y : Value} {t : TypeId} (h : Below (w.heap.size + 1) (w.alloc (.cells #[x, y] t)) w') :
    w'.cell? ⟨w.heap.size, 0, none⟩ = some x ∧ w'.cell? ⟨w.heap.size, 1, none⟩ = some y := by
  have hn := heap_alloc_new w (.cells #[x, y] t)
  refine ⟨?_, ?_⟩
  · rw [h.cell (p := ⟨w.heap.size, 0, none⟩) (Nat.lt_succ_self _), Lib.cell_of_heap hn]; rfl
  · rw [h.cell (p := ⟨w.heap.size, 1, none⟩) (Nat.lt_succ_self _), Lib.cell_of_heap hn]; rfl

theorem walk_short (a0 a1 : ByteArray) (w : World) (h0 : a0.size ≤ maxLen) (h1 : a1.size ≤ maxLen) (hc : ¬ (a0.size ≤ 30000 ∧ a1.size ≤ 30000)) :
    Calls Try.prog 6 #[.string a0, .string a1] w fun e w' => e = .returned (.bool true) ∧ Below w.heap.size w w' := by
  unfold maxLen at h0 h1
  by_cases c0 : a0.size ≤ 30000
  · have c1 : ¬ a1.size ≤ 30000 := fun h => hc ⟨c0, h⟩
    clear hc
    go_enter Try.func6, Try.ntmps6
    go_wp2_with fail
    refine (fixed_any _).mono ?_
    rintro e w1 ⟨rfl, hb1⟩
    go_wp2_with (go_at_call 10; refine (fixed_any _).mono ?_; rintro e w2 ⟨rfl, hb2⟩)
    go_ret
    exact ⟨rfl, hb1.trans (hb2.mono hb1.size)⟩
  · clear hc
    go_enter Try.func6, Try.ntmps6
    go_wp2_with fail
    refine (fixed_any _).mono ?_
    rintro e w1 ⟨rfl, hb1⟩
    go_wp2_with (go_at_call 10; refine (fixed_any _).mono ?_; rintro e w2 ⟨rfl, hb2⟩)
    go_ret
    exact ⟨rfl, hb1.trans (hb2.mono hb1.size)⟩

set_option maxHeartbeats 1000000 in
theorem walk_first (a0 a1 : ByteArray) (w : World) (h0 : a0.size ≤ maxLen) (h1 : a1.size ≤ maxLen) (c0 : a0.size ≤ 30000) (c1 : a1.size ≤ 30000) (p : Nat) (he : M.lexF 0 a0.data.toList = .error p) :
    Calls Try.prog 6 #[.string a0, .string a1] w fun e w' => e = .returned (.bool true) ∧ Below w.heap.size w w' := by
  have H1 : Hid (M.lex a0.data.toList = ([], 10, (p : Int))) := M.lex_of_error (by rw [len_list]; omega) he
  have H3 : Hid (M.lex (a0 ++ (⟨#[10]⟩ : ByteArray) ++ a1).data.toList = ([], 10, (p : Int))) := by
    refine M.lex_of_error (by rw [len_list, join_size]; omega) ?_
    rw [join_list, M.lexF_parts _ _ _ _ (Nat.le_refl _), he]
  obtain ⟨ts2, cc2, p2, hr2⟩ : ∃ ts c p, M.lex a1.data.toList = (ts, c, p) := ⟨_, _, _, rfl⟩
  have H2 := hid hr2
  clear hr2 he
  have hjs := join_size a0 a1
  have HJ := hid hjs
  clear hjs
  have hs25 := stood25
  have hg25 := guard25
  have heq := fun a b c d w' => eq25 a b c d w'
  go_enter Try.func6, Try.ntmps6
  go_wp2_with fail
  refine (fixed_any _).mono ?_
  rintro e w0 ⟨rfl, hb0⟩
  go_wp2_with fail
  refine (lexAt _ _ _ _ h0 rfl H1.out).mono ?_
  rintro e w1 ⟨v1, rfl, hown1, hb1⟩
  go_wp2_with fail
  refine (lexAt _ _ _ _ h1 rfl H2.out).mono ?_
  rintro e w2 ⟨v2, rfl, hown2, hb2⟩
  go_wp2_with fail
  refine (lexAt _ _ _ _ ?hs rfl H3.out).mono ?_
  case hs => rw [HJ.out]; unfold maxLen; omega
  rintro e w3 ⟨v3, rfl, hown3, hb3⟩
  have z0 := hb0.size
  have z1 := hb1.size
  have z2 := hb2.size
  have z3 := hb3.size
  simp only [World.size_alloc] at z2 z3 hb2 hb3
  have hb23 : Below (w1.heap.size + 1) (w1.alloc (.cells #[.int .i64 10, .int .i64 p] 25)) w3 := hb2.trans (((Below.refl _ _).alloc (by omega) _).trans (hb3.mono (by omega)))
  obtain ⟨q1, q2⟩ := two_cells hb23
  have k1 : w1.heap.size < w3.heap.size := by omega
  go_wp2
  go_ret
  refine ⟨rfl, ?_⟩
  refine Below.alloc ?_ (by omega) _
  exact (hb0.trans (hb1.mono z0)).trans (((Below.refl _ _).alloc (by omega) _).trans (hb23.mono (by omega)))
set_option maxHeartbeats 1000000 in
theorem walk_second (a0 a1 : ByteArray) (w : World) (h0 : a0.size ≤ maxLen) (h1 : a1.size ≤ maxLen) (c0 : a0.size ≤ 30000) (c1 : a1.size ≤ 30000) (ts : List M.Tok) (p : Nat) (hok : M.lexF 0 a0.data.toList = .ok ts) (he : M.lexF 0 a1.data.toList = .error p) :
    Calls Try.prog 6 #[.string a0, .string a1] w fun e w' => e = .returned (.bool true) ∧ Below w.heap.size w w' := by
  have H1 : Hid (M.lex a0.data.toList = (ts, 0, 0)) := M.lex_of_ok (by rw [len_list]; omega) hok
  have H2 : Hid (M.lex a1.data.toList = ([], 10, (p : Int))) := M.lex_of_error (by rw [len_list]; omega) he
  have H3 : Hid (M.lex (a0 ++ (⟨#[10]⟩ : ByteArray) ++ a1).data.toList = ([], 10, (p : Int) + (a0.size : Int) + 1)) := by
    have := M.lex_of_error (l := (a0 ++ (⟨#[10]⟩ : ByteArray) ++ a1).data.toList) (e := p + (a0.size + 1)) (by rw [len_list, join_size]; omega) (by
      rw [join_list, M.lexF_parts _ _ _ _ (Nat.le_refl _), hok]
      simp only
      rw [show 0 + a0.data.toList.length + 1 = 0 + (a0.size + 1) by rw [len_list]; omega, M.lexF_shift, he]; rfl)
    unfold Hid; rw [this]
    have e : ((p + (a0.size + 1) : Nat) : Int) = (p : Int) + (a0.size : Int) + 1 := by omega
    rw [e]
  have hp : p < 0 + a1.data.toList.length := lexL_error _ _ _ _ he
  rw [len_list] at hp
  clear hok he
  have hjs := join_size a0 a1
  have HJ := hid hjs
  clear hjs
  have hs25 := stood25
  have hg25 := guard25
  have heq := fun a b c d w' => eq25 a b c d w'
  go_enter Try.func6, Try.ntmps6
  go_wp2_with fail
  refine (fixed_any _).mono ?_
  rintro e w0 ⟨rfl, hb0⟩
  go_wp2_with fail
  refine (lexAt _ _ _ _ h0 rfl H1.out).mono ?_
  rintro e w1 ⟨v1, rfl, hown1, hb1⟩
  go_wp2_with fail
  refine (lexAt _ _ _ _ h1 rfl H2.out).mono ?_
  rintro e w2 ⟨v2, rfl, hown2, hb2⟩
  go_wp2_with fail
  refine (lexAt _ _ _ _ ?hs rfl H3.out).mono ?_
  case hs => rw [HJ.out]; unfold maxLen; omega
  rintro e w3 ⟨v3, rfl, hown3, hb3⟩
  have z0 := hb0.size
  have z1 := hb1.size
  have z2 := hb2.size
  have z3 := hb3.size
  simp only [World.size_alloc] at z2 z3 hb2 hb3
  have hb23 : Below (w1.heap.size + 1) (w1.alloc (.cells #[.int .i64 0, .int .i64 0] 25)) w3 := hb2.trans (((Below.refl _ _).alloc (by omega) _).trans (hb3.mono (by omega)))
  obtain ⟨q1, q2⟩ := two_cells hb23
  obtain ⟨q3, q4⟩ := two_cells hb3
  have k1 : w1.heap.size < w3.heap.size := by omega
  have k2 : w2.heap.size < w3.heap.size := by omega
  go_wp2
  go_ret
  refine ⟨?_, ?_⟩
  · first | rfl | (simp; done)
  refine Below.alloc ?_ (by omega) _
  exact (hb0.trans (hb1.mono z0)).trans (((Below.refl _ _).alloc (by omega) _).trans (hb23.mono (by omega)))

set_option maxHeartbeats 2000000 in
theorem walk_both (a0 a1 : ByteArray) (w : World) (h0 : a0.size ≤ maxLen) (h1 : a1.size ≤ maxLen) (c0 : a0.size ≤ 30000) (c1 : a1.size ≤ 30000) (ts us : List M.Tok) (hok : M.lexF 0 a0.data.toList = .ok ts) (hok2 : M.lexF 0 a1.data.toList = .ok us) :
    Calls Try.prog 6 #[.string a0, .string a1] w fun e w' => e = .returned (.bool true) ∧ Below w.heap.size w w' := by
  have H1 : Hid (M.lex a0.data.toList = (ts, 0, 0)) := M.lex_of_ok (by rw [len_list]; omega) hok
  have H2 : Hid (M.lex a1.data.toList = (us, 0, 0)) := M.lex_of_ok (by rw [len_list]; omega) hok2
  obtain ⟨xs, H3, HP⟩ : ∃ xs, Hid (M.lex (a0 ++ (⟨#[10]⟩ : ByteArray) ++ a1).data.toList = (xs, 0, 0)) ∧ Hid (M.plain xs = M.plain (ts ++ us)) := by
    refine ⟨_, M.lex_of_ok (by rw [len_list, join_size]; omega) (by
      rw [join_list, M.lexF_parts _ _ _ _ (Nat.le_refl _), hok]
      simp only
      rw [show 0 + a0.data.toList.length + 1 = 0 + (a0.size + 1) by rw [len_list]; omega, M.lexF_shift, hok2]; rfl), ?_⟩
    show M.plain _ = _
    simp only [M.plain, List.map_append, List.map_map]
    rfl
  have s1 := M.lex_small a0.data.toList
  have s2 := M.lex_small a1.data.toList
  have s3 := M.lex_small (a0 ++ (⟨#[10]⟩ : ByteArray) ++ a1).data.toList
  rw [H1.out] at s1
  rw [H2.out] at s2
  rw [H3.out] at s3
  have n1 : ts.length ≤ 65536 := s1.1
  have n2 : us.length ≤ 65536 := s2.1
  have n3 : xs.length ≤ 65536 := s3.1
  have HS : Hid (∀ x, x ∈ ts ++ us → x.t.size ≤ maxLen) := fun x hx => by
    rcases List.mem_append.1 hx with hx | hx
    · have := s1.2 x hx; unfold maxLen; omega
    · have := s2.2 x hx; unfold maxLen; omega
  have HS3 : Hid (∀ x, x ∈ xs → x.t.size ≤ maxLen) := fun x hx => by have := s3.2 x hx; unfold maxLen; omega
  clear s1 s2 s3 hok hok2
  have hjs := join_size a0 a1
  have HJ := hid hjs
  clear hjs
  have hs25 := stood25
  have hg25 := guard25
  have heq := fun a b c d w' => eq25 a b c d w'
  go_enter Try.func6, Try.ntmps6
  go_wp2_with fail
  refine (fixed_any _).mono ?_
  rintro e w0 ⟨rfl, hb0⟩
  go_wp2_with fail
  refine (lexAt _ _ _ _ h0 rfl H1.out).mono ?_
  rintro e w1 ⟨v1, rfl, hown1, hb1⟩
  go_wp2_with fail
  refine (lexAt _ _ _ _ h1 rfl H2.out).mono ?_
  rintro e w2 ⟨v2, rfl, hown2, hb2⟩
  go_wp2_with fail
  refine (lexAt _ _ _ _ ?hs rfl H3.out).mono ?_
  case hs => rw [HJ.out]; unfold maxLen; omega
  rintro e w3 ⟨v3, rfl, hown3, hb3⟩
  have z0 := hb0.size
  have z1 := hb1.size
  have z2 := hb2.size
  have z3 := hb3.size
  simp only [World.size_alloc] at z2 z3 hb2 hb3
  have hb23 : Below (w1.heap.size + 1) (w1.alloc (.cells #[.int .i64 0, .int .i64 0] 25)) w3 := hb2.trans (((Below.refl _ _).alloc (by omega) _).trans (hb3.mono (by omega)))
  obtain ⟨q1, q2⟩ := two_cells hb23
  obtain ⟨q3, q4⟩ := two_cells hb3
  have k1 : w1.heap.size < w3.heap.size := by omega
  have k2 : w2.heap.size < w3.heap.size := by omega
  have T3 : TokAt w3 v3 xs := tokAt_of_owns hown3 (by omega) HS3.out
  go_wp2_with fail
  refine (plain_any _ xs _ (T3.alloc _) (by omega)).mono ?_
  rintro e w4 ⟨v4, rfl, hown4, hb4⟩
  have z4 := hb4.size
  simp only [World.size_alloc] at z4 hb4
  have b14 : Below w1.heap.size w1 w4 := ((Below.refl _ _).alloc (Nat.le_refl _) _).trans ((hb23.mono (Nat.le_succ _)).trans (((Below.refl _ _).alloc (by omega) _).trans (hb4.mono (by omega))))
  have b24 : Below w2.heap.size w2 w4 := ((Below.refl _ _).alloc (Nat.le_refl _) _).trans ((hb3.mono (Nat.le_succ _)).trans (((Below.refl _ _).alloc (by omega) _).trans (hb4.mono (by omega))))
  have o1 := ownsRow_below hown1 b14
  have o2 := ownsRow_below hown2 b24
  have o0 := World.ownsRow_made (base := w4.heap.size) (e := 37) (size := 3) w4 #[] 0 (Nat.le_refl _) (by unfold maxLen; omega) rfl
  go_wp2_with (at_builtin; refine wpList_append_toks (by rfl) _ _ (by rfl) w4.heap.size _ _ _ [] ts (by rfl) (by rfl) o0 (o1.alloc _) ?ca ?cb ?_)
  case ca => simp; omega
  case cb => simp
  intro v5 w5 hown5 hg5
  have o25 : w5.ownsRow (w1.alloc (.cells #[.int .i64 0, .int .i64 0] 25)).heap.size 37 3 v2 us.length (M.row us) :=
    (o2.alloc (.cells #[] 37)).kept hg5 (.inr (fun e => by
      have := (o2.lt w4.heap.size e).2
      omega))
  have b45 : Below w4.heap.size w4 w5 := ((Below.refl _ _).alloc (Nat.le_refl _) _).grown hg5 (by simp) (fun k hk => by simp [Value.ownBlock] at hk; omega)
  have z5 := b45.size
  go_wp2_with (at_builtin; refine wpList_append_toks (by rfl) _ _ (by rfl) w4.heap.size _ v5 v2 ts us (by rfl) (by rfl) hown5 o25 ?cc ?cd ?_)
  case cc => omega
  case cd => exact z5
  intro v6 w6 hown6 hg6
  have b46 : Below w4.heap.size w4 w6 := b45.grown hg6 z5 (fun k hk => (hown5.lt k hk).1)
  have T6 : TokAt w6 v6 (ts ++ us) := tokAt_of_owns (by rw [List.length_append]; exact hown6) (by rw [List.length_append]; omega) HS.out
  go_wp2_with fail
  refine (plain_any _ (ts ++ us) _ T6 (by rw [List.length_append]; omega)).mono ?_
  rintro e w7 ⟨v7, rfl, hown7, hb7⟩
  have b47 : Below w4.heap.size w4 w7 := b46.trans (hb7.mono b46.size)
  have T7 : TokAt w7 v7 (M.plain (ts ++ us)) := tokAt_of_owns hown7 (by rw [plain_length, List.length_append]; omega) (plain_sizes HS.out)
  have T4 : TokAt w7 v4 (M.plain xs) := (tokAt_of_owns hown4 (by rw [plain_length]; omega) (plain_sizes HS3.out)).keep b47
  go_wp2_with fail
  refine (same_any _ _ _ _ _ T4 T7).mono ?_
  rw [(M.same_iff _ _).2 HP.out]
  rintro e w8 ⟨rfl, n, rfl⟩
  go_wp2
  go_ret
  refine ⟨rfl, below_drewN ?_ n⟩
  exact ((hb0.trans (hb1.mono z0)).trans (b14.mono (by omega))).trans (b47.mono (by omega))

theorem walk (a0 a1 : ByteArray) (h0 : a0.size ≤ maxLen) (h1 : a1.size ≤ maxLen) (w : World) :
    Calls Try.prog 6 #[.string a0, .string a1] w fun e w' => e = .returned (.bool true) ∧ Below w.heap.size w w' := by
  by_cases hc : a0.size ≤ 30000 ∧ a1.size ≤ 30000
  · cases e1 : M.lexF 0 a0.data.toList with
    | error p => exact walk_first a0 a1 w h0 h1 hc.1 hc.2 p e1
    | ok ts =>
      cases e2 : M.lexF 0 a1.data.toList with
      | error p => exact walk_second a0 a1 w h0 h1 hc.1 hc.2 ts p e1 e2
      | ok us => exact walk_both a0 a1 w h0 h1 hc.1 hc.2 ts us e1 e2
  · exact walk_short a0 a1 w h0 h1 hc

theorem own : ownKnob Try.prog.godebug = none := by kernel_rfl

set_option maxRecDepth 100000 in
theorem lifted (os : Os) (started : os.Started) (H : Type) (enc : TypeId × Value → H) :
    ReturnsInHanded {} Try.checked os 6 .any (Rows.lexPartsSpec.pre6 enc Try.prog Try.f6 Rows.lexPartsRow.domain false) (Rows.lexPartsSpec.post enc Try.prog Try.f6 false true false false) := by
  refine returnsInHanded_of_change (C := Try.checked) own started (by kernel_rfl) Try.func6
    (ChangeSpec.witness6 (enc := enc) (C := Try.checked) false ⟨#[], #[.string ByteArray.empty, .string ByteArray.empty], []⟩ 8 (by kernel_rfl) (by kernel_rfl) (by kernel_rfl) (by kernel_rfl)) ?_
  intro W base args ds gs before hval0 hW _ _
  have hval : ∀ (j : Nat) t v, Try.f6.params[j]? = some t → args[j]? = some v → Value.okWide Try.prog W .any base t v := hval0
  have hW' := hW
  obtain ⟨p, q, hA0, hV, rfl, hfz, hnd⟩ := hW
  have hA : DataW.TrodAll enc Try.prog W 0 (fun _ => true) true Try.f6.params.toList args.toList ds p := hA0
  rw [Try.params6] at hA hval
  obtain ⟨v0, vs0, d0, ds0, p0, q0, hargs, rfl, rfl, h0, r0⟩ := trodAll_cons hA
  obtain ⟨v1, vs1, d1, ds1, p1, q1, rfl, rfl, rfl, h1, r1⟩ := trodAll_cons r0
  obtain ⟨rfl, rfl, rfl⟩ := trodAll_nil r1
  obtain rfl : args = #[v0, v1] := by cases args; simp_all
  obtain ⟨rfl, rfl⟩ := trodVars_none hV
  obtain ⟨a0, rfl, rfl, rfl, w0⟩ := open_string Try.underlying9 (hval 0 9 v0 rfl rfl) h0
  obtain ⟨a1, rfl, rfl, rfl, w1⟩ := open_string Try.underlying9 (hval 1 9 v1 rfl rfl) h1
  clear hA0 hval0
  simp only [List.append_nil] at hW'
  refine (walk a0 a1 w0 w1 W).mono fun e W' ⟨he, hb⟩ => ?_
  subst he
  exact ⟨_, rfl, _, _, _, [], [], [], hW', trodAll_cons_mk (shut_bool Try.underlying4 _) trodAll_mk0, trodAll_cons_mk (shut_string Try.underlying9 w0) (trodAll_cons_mk (shut_string Try.underlying9 w1) trodAll_mk0), rfl, hb.frame _, fun h => by cases h⟩

theorem proved : Rows.LexPartsSaid :=
  OpenClaim.holds_of_wide 6 Try.f6 rfl rfl rfl rfl rfl rfl rfl ⟨rfl, rfl, rfl, rfl, rfl⟩ rfl rfl rfl rfl rfl (by kernel_rfl) Try.func6 (by kernel_rfl)
    (of_decide_eq_true (by kernel_rfl)) (by unfold Func.isWrapper; first | (rw [if_pos (by decide +kernel)]; kernel_rfl) | (rw [if_neg (by decide +kernel)]; exact ⟨rfl, rfl⟩))
    (fun os started H enc _ => lifted os started H enc)
end LexParts

theorem lexParts_holds : Rows.LexPartsSaid := LexParts.proved
end Go.Proofs.Ytilkkopgbdppjaa
