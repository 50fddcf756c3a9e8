/-
  The walk of a reader's block, where statement is known for fewer tokens; and so of both, for any number of tokens. No conditions.
-/
import Derived.Test.YtkonkdhoakcmdaaGreatDoorR13
set_option linter.unusedVariables false
namespace Go.Proofs.YtkonkdhoakcmdaaGreatDoor
open Go.RowKit

theorem infoStm : (Tryz.prog.info? 59).map (fun i => (i.zero, i.size, i.bytes)) = some (some (.agg #[.int .i64 0, .string ⟨#[]⟩, .string ⟨#[]⟩, .string ⟨#[]⟩, .slice none 0 0, .slice none 0 0, .slice none 0 0, .slice none 0 0]), 8, 152) := by kernel_rfl

/-- the blocks that were there, and the row itself -/
def Avoid (w : World) (v : Value) : Nat → Prop := fun b => b < w.heap.size ∨ v.ownBlock = some b

/-- a statement more in the row -/
theorem row_step {r g n cap : Nat} {w wr w3 w5 : World} {v : Value} {acc : M.Tr} {cs : List Value} {obj : Obj} {op : Int} {x y p : ByteArray} {a : List M.Opd} {pr : List ByteArray} {th el : M.Tr} {va vp vt ve : Value}
    (hr : r < w.heap.size) (o : Only r w wr) (own : wr.ownsRow w.heap.size 59 8 v acc.len cs) (row : RowAt wr (Avoid w v) cs acc) (o3 : Only r wr w3)
    (hA : OpsAt w3 (Old wr) va a) (hP : StrsAt w3 (Old wr) vp pr) (hT : StmAt w3 (Old wr) vt th) (hE : StmAt w3 (Old wr) ve el)
    (hgrow : (w3.alloc obj).grownBy w5 v.ownBlock) (hat : v.ownBlock = some g ∨ g = w3.heap.size + 1) :
    RowAt w5 (Avoid w (.slice (some ⟨g, 0, none⟩) n cap)) (cs ++ [.int .i64 op, .string x, .string y, .string p, va, vp, vt, ve]) (acc.app (M.one op x y p a pr th el)) := by
  have hza : (w3.alloc obj).heap.size = w3.heap.size + 1 := World.size_alloc _ _
  have hob : ∀ k, v.ownBlock = some k → w.heap.size ≤ k ∧ k < wr.heap.size := fun k hk => own.lt k hk
  have hz3 := o3.size
  have hz0 := o.size
  -- the row's own blocks and g
  have row3 : RowAt (w3.alloc obj) (Avoid w v) cs acc := RowAt.keep (Below.keepX ((Below.refl _ _).alloc (Nat.le_refl _) obj)) (RowAt.keep (o3.keep (.inl hr)) row)
  have new3 : RowAt (w3.alloc obj) (Old wr) [.int .i64 op, .string x, .string y, .string p, va, vp, vt, ve] (M.one op x y p a pr th el) :=
    RowAt.keep (Below.keepX ((Below.refl _ _).alloc (Nat.le_refl _) obj)) (RowAt.one hA hP hT hE)
  have hweak : ∀ b, b < (w3.alloc obj).heap.size → (¬ Avoid w v b ∨ ¬ Old wr b) → ¬ (b < w.heap.size ∨ v.ownBlock = some b ∨ b = g) := by
    intro b hb hx hy
    rw [hza] at hb
    have h1 : ¬ (b < w.heap.size ∨ v.ownBlock = some b) := by
      intro h2
      rcases hx with hx | hx
      · exact hx h2
      · apply hx
        rcases h2 with h2 | h2
        · exact Nat.lt_of_lt_of_le h2 hz0
        · exact (hob b h2).2
    rcases hy with hy | hy | rfl
    · exact h1 (.inl hy)
    · exact h1 (.inr hy)
    · rcases hat with hat | hat
      · exact h1 (.inr hat)
      · omega
  have hx := RowAt.app (RowAt.weak (Y := fun b => b < w.heap.size ∨ v.ownBlock = some b ∨ b = g) (fun b hb hx => hweak b hb (.inl hx)) row3) (RowAt.weak (fun b hb hx => hweak b hb (.inr hx)) new3)
  refine RowAt.weak ?_ (RowAt.keep (keep_grown hgrow fun k hk => .inr (.inl hk)) hx)
  intro b _ hx hy
  apply hx
  rcases hy with hy | hy
  · exact .inl hy
  · simp only [Value.ownBlock, Option.some.injEq] at hy
    exact .inr (.inr hy.symm)

/-- what block has in its hands in a round -/
structure BlkIn (r N : Nat) (w wr : World) (k : Nat) (v : Value) (S2 : M.St) (acc : M.Tr) (cs : List Value) : Prop where
  rd : Rd wr r S2
  only : Only r w wr
  own : wr.ownsRow w.heap.size 59 8 v acc.len cs
  row : RowAt wr (Avoid w v) cs acc
  lt : S2.rest.length < k
  len : acc.len ≤ S2.n
  le : S2.rest.length ≤ N
  d : 1 ≤ S2.d

set_option maxRecDepth 8000 in
set_option maxHeartbeats 1600000 in
theorem block_main (N : Nat) (hS : StmtC N) (r : Nat) (S : M.St) (w : World) (h : Rd w r S) (hN : S.rest.length < N + 1) (h1 : S.at (M.ch 123) = true) (h2 : ¬ S.d = 32) :
    Calls Tryz.prog 53 #[.pointer (some ⟨r, 0, none⟩)] w (Ends r w (blkEnc w) (M.block (M.stmt (M.blk N)) S)) := by
  have hlt := h.lt
  have hat := at_any r S (M.ch 123) _ h
  rw [h1] at hat
  have hd32 : ((S.d : Int) == 32) = false := by simp; omega
  obtain ⟨i0, hi0, hz0, hz1, hz2⟩ := info_parts infoStm
  have htk : M.take S (M.ch 123) = .ok (S.adv, ()) := by simp [M.take, h1]
  have HR : Hid (M.block (M.stmt (M.blk N)) S = M.bnd (M.stmts (M.stmt (M.blk N)) (S.adv.rest.length + 1) S.adv.down .nil) fun S2 t => .ok (S2.up, t)) := by
    unfold Hid M.block; rw [if_neg (fun e => h2 e.2), htk]; rfl
  have hsh := M.adv_short (M.at_ne h1 (by decide))
  obtain ⟨⟨v0, hh, ht0⟩, _, hlim⟩ := id h
  obtain ⟨hv, hfin, hk, ht, hp, hn5, hd6, hfree, hlt'⟩ := cells7 hh
  go_enter Tryz.func53, Tryz.ntmps53
  go_wp2_with fail
  refine hat.mono ?_
  rintro e w' ⟨rfl, hw'⟩
  rw [hw']
  clear hw' w'
  go_wp2_with fail
  refine (take_any r S (M.ch 123) _ h (by decide)).mono ?_
  rintro e w1 ⟨o1, hok, herr⟩
  obtain ⟨v1, rfl, r1, hv1⟩ := hok _ _ htk
  obtain rfl : v1 = .tuple #[] := hv1
  clear hok herr hv hfin hk ht hp hn5 hd6 hfree
  obtain ⟨⟨v1, hh1, ht1⟩, _, _⟩ := id r1
  obtain ⟨hv, hfin, hk, ht, hp, hn5, hd6, hfree, hlt1⟩ := cells7 hh1
  have rD := r1.down (by show ¬ S.d = 32; exact h2)
  have oD : Only r w (w1.setCell ⟨r, 6, none⟩ (.int .i64 ((S.adv.d : Int) + 1))) := o1.setCell (.inl rfl) _
  have hd0 : (0 : Int) ≤ (S.adv.d : Int) := Int.natCast_nonneg _
  have hd1 : (S.adv.d : Int) ≤ 32 := by have := hlim.2; show (S.d : Int) ≤ 32; omega
  go_wp2_with fail
  generalize hwD : w1.setCell ⟨r, 6, none⟩ (.int .i64 ((S.adv.d : Int) + 1)) = wD at rD oD ⊢
  clear hwD
  clear hv hfin hk ht hp hn5 hd6 hfree
  go_loopg [3] (S.adv.rest.length + 1) (fun k v wr => ∃ S2 acc cs, BlkIn r N w wr k v S2 acc cs ∧ Hid (M.stmts (M.stmt (M.blk N)) (S.adv.rest.length + 1) S.adv.down .nil = M.stmts (M.stmt (M.blk N)) k S2 acc))
  case atStart =>
    exact ⟨S.adv.down, .nil, [], ⟨rD, oD, World.ownsRow_nil _ _ _ _, rfl, Nat.lt_succ_self _, Nat.zero_le _, by show S.adv.rest.length ≤ N; omega, by show 1 ≤ S.adv.d + 1; omega⟩, rfl⟩
  case round =>
    obtain ⟨S2, acc, cs, ⟨rd, only, own, row, hkl, len, le, hd⟩, HM⟩ := hrel
    cases gk with
    | zero => exact absurd hkl (by omega)
    | succ k =>
      cases hc : S2.at (M.ch 125)
      · have HM2 : Hid (M.block (M.stmt (M.blk N)) S = M.bnd (M.bnd (M.stmt (M.blk N) S2) fun S3 t => M.stmts (M.stmt (M.blk N)) k S3 (acc.app t)) fun S2 t => .ok (S2.up, t)) := by
          unfold Hid; rw [HR.out, HM.out]; simp only [M.stmts, hc]; rfl
        go_wp2_with fail
        refine (passIf_no r S2 (M.ch 125) _ rd hc).mono ?_
        rintro e w' ⟨rfl, rfl⟩
        go_wp2_with fail
        refine (hS r S2 _ rd le).mono ?_
        rintro e w3 ⟨o3, hok, herr⟩
        cases hst : M.stmt (M.blk N) S2 with
        | error f =>
          obtain rfl := herr f hst
          exact ⟨rfl, Ends.err (by rw [HM2.out, hst]; rfl) (only.trans o3)⟩
        | ok p =>
          obtain ⟨S3, t⟩ := p
          obtain ⟨v3, rfl, r3, op, x, y, pn, l, pr, th, el, va, vp, vt, ve, rfl, rfl, hA, hP, hT, hE⟩ := hok S3 t hst
          obtain ⟨aa, ca, rfl⟩ := SlAt.form hA
          obtain ⟨ap, cp, rfl⟩ := SlAt.form hP
          obtain ⟨a3, c3, rfl⟩ := StmAt.form hT
          obtain ⟨a4, c4, rfl⟩ := StmAt.form hE
          have hl3 := M.stmtN_lt hst
          have hlr := hl3.rest
          have hln := hl3.n
          have hld := hl3.d
          have hlim3 := r3.lim.1
          have own3 := ownsRow_only own o3 hlt
          have hz3 := o3.size
          have hzo := only.size
          have hm63 : acc.len + 1 ≤ maxLen := by unfold maxLen; omega
          have hmby : (acc.len + 1) * 152 ≤ 140737488355328 := by omega
          clear hok herr
          go_wp2_with (at_builtin; refine wpList_append_lies _ rfl _ _ 52 rfl w.heap.size 59 i0 _ 8 152 Tryz.underlying52 hi0 hz0 hz1 hz2 rfl (by decide) _ _ _ rfl (own3.alloc _) ⟨w3.heap.size, 0, none⟩ 1 1 [.int .i64 op, .string x, .string y, .string pn, .slice aa l.length ca, .slice ap pr.length cp, .slice a3 th.len c3, .slice a4 el.len c4] rfl rfl (World.news_of_block (cs := #[.int .i64 op, .string x, .string y, .string pn, .slice aa l.length ca, .slice ap pr.length cp, .slice a3 th.len c3, .slice a4 el.len c4]) (t := 59) (fr := (0, 0)) (heap_alloc_new w3 _)) (by simp [Value.oneCell']) Nat.one_pos hm63 hmby (by rw [World.size_alloc]; omega) (w3.heap.size + 1) (World.size_alloc _ _) ?_)
          intro gg cap' w5 hown5 hgrow hat5 hlt5
          go_wp2_with fail
          have hob := fun k' hk' => (own.lt k' hk').1
          go_roundg k
          case measure => omega
          case rel =>
            refine ⟨S3, acc.app (M.one op x y pn l pr th el), _, ⟨(r3.alloc _).grown hgrow fun k' hk' => by have := hob k' hk'; omega, ((only.trans o3).alloc _).grown hgrow hob, ?_, row_step hlt only own row o3 hA hP hT hE hgrow hat5, by omega, ?_, by omega, by omega⟩, ?_⟩
            · rw [M.app_len]; exact hown5
            · rw [M.app_len]; show acc.len + 1 ≤ S3.n; omega
            · unfold Hid; rw [HM.out]; simp only [M.stmts, hc, hst]; rfl
      · have HM2 : Hid (M.block (M.stmt (M.blk N)) S = .ok (S2.adv.up, acc)) := by
          unfold Hid; rw [HR.out, HM.out]; simp only [M.stmts, hc]; rfl
        go_wp2_with fail
        refine (passIf_yes r S2 (M.ch 125) _ rd hc (by decide)).mono ?_
        rintro e w3 ⟨rfl, r3, o3⟩
        obtain ⟨⟨v3, hh3, ht3⟩, _, hlim3⟩ := id r3
        obtain ⟨hv, hfin, hk, ht, hp, hn5, hd6, hfree, hlt3⟩ := cells7 hh3
        have hd0 : (1 : Int) ≤ (S2.adv.d : Int) := by show (1 : Int) ≤ (S2.d : Int); omega
        have hd1 : (S2.adv.d : Int) ≤ 32 := by have := hlim3.2; omega
        have rU := r3.up (by show 1 ≤ S2.d; exact hd)
        have hln := rd.lim.1
        go_wp2_with fail
        go_ret
        refine Ends.ok HM2.out ((only.trans o3).setCell (.inl rfl) _) rU ⟨cs, SlAt.of_owns (ownsRow_setCell_below (ownsRow_only own o3 hlt) (by show r < _; exact hlt) _) (fun b hb hx => by have : b < w.heap.size := hx; omega) (by omega), ?_⟩
        exact RowAt.weak (fun b _ hx hy => hx (.inl hy)) (RowAt.keep (keep_set (p := ⟨r, 6, none⟩) (.inl hlt) _) (RowAt.keep (o3.keep (.inl hlt)) row))

theorem block_any (N : Nat) (hS : StmtC N) : BlockC (N + 1) := by
  intro r S w h hN
  show Calls Tryz.prog 53 #[.pointer (some ⟨r, 0, none⟩)] w (Ends r w (blkEnc w) (M.block (M.stmt (M.blk N)) S))
  have hat := at_any r S (M.ch 123) _ h
  cases h1 : S.at (M.ch 123)
  · rw [h1] at hat
    have htk : M.take S (M.ch 123) = .error (20, S.now.p) := by simp [M.take, h1, M.fail]
    go_enter Tryz.func53, Tryz.ntmps53
    go_wp2_with fail
    refine hat.mono ?_
    rintro e w' ⟨rfl, hw'⟩
    rw [hw']
    clear hw' w'
    go_wp2_with fail
    refine (take_any r S (M.ch 123) _ h (by decide)).mono ?_
    rintro e w1 ⟨o1, hok, herr⟩
    obtain rfl := herr _ htk
    exact ⟨rfl, Ends.err (by unfold M.block; rw [if_neg (fun e => by rw [h1] at e; exact absurd e.1 (by decide)), htk]; rfl) o1⟩
  · by_cases h2 : S.d = 32
    · rw [h1] at hat
      obtain ⟨⟨v0, hh, ht0⟩, _, hlim⟩ := id h
      obtain ⟨hv, hfin, hk, ht, hp, hn5, hd6, hfree, hlt'⟩ := cells7 hh
      rw [h2] at hd6
      go_enter Tryz.func53, Tryz.ntmps53
      go_wp2_with fail
      refine hat.mono ?_
      rintro e w' ⟨rfl, hw'⟩
      rw [hw']
      clear hw' w'
      go_wp2_with fail
      refine (fail_any r S _ _ h).mono ?_
      rintro e w' ⟨rfl, rfl⟩
      exact ⟨rfl, Ends.err (by unfold M.block; rw [if_pos ⟨h1, h2⟩]; rfl) (Only.refl _ _)⟩
    · exact block_main N hS r S w h hN h1 h2

theorem blockC : ∀ N, BlockC N
  | 0 => fun r S w h hN => absurd hN (by omega)
  | N + 1 => block_any N (statement_any N (blockC N))
end Go.Proofs.YtkonkdhoakcmdaaGreatDoor
