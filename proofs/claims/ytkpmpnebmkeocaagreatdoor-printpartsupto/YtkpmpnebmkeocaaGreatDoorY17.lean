/-
  What the law PrintParts asks of texts: a program's text is that of its functions, one after the other; a function's has its statements' texts in it. No conditions.
-/
import Derived.Test.YtkpmpnebmkeocaaGreatDoorYT
import Derived.Test.YtkpmpnebmkeocaaGreatDoorY12
set_option linter.unusedVariables false
set_option linter.unusedSimpArgs false
namespace Go.Proofs.YtkpmpnebmkeocaaGreatDoor
open Go.RowKit

theorem parts_left {p q : List M.Fn} (h : prB (p ++ q) = true) : prB p = true ∧ prB q = true ∧ prT (p ++ q) = prT p ++ prT q := by
  obtain ⟨h1, h2, h3⟩ := prt_text h
  rw [M.text_app] at h2 h3
  have hl : (M.text p).length ≤ 65536 ∧ (M.text q).length ≤ 65536 := by rw [List.length_append] at h2; omega
  obtain ⟨k1, k2⟩ := prt_yes (M.rProg_left h1) hl.1
  obtain ⟨j1, j2⟩ := prt_yes (M.rProg_right h1) hl.2
  refine ⟨k2, j2, ?_⟩
  rw [h3, k1, j1]
  apply M.bytes_ext
  simp
def headT (nm : ByteArray) : List UInt8 := [102, 117, 110, 32] ++ nm.data.toList ++ [32, 40, 32, 41, 32, 123, 32]
theorem text_head {f : M.Fn} {p : List M.Fn} (hf : M.rFn f) (h0 : f.ps = []) : M.text (f :: p) = headT f.name ++ (M.bytesB (M.laidTr f.body) ++ ([125, 10] ++ M.text p)) := by
  obtain ⟨nm, ps, body⟩ := f
  simp only at h0
  subst h0
  rw [M.text_cons, M.laidTr_right _ _ hf.2.2]
  have e : M.tx (M.tkFnA ⟨nm, [], body⟩) = [M.kFun, nm, M.ch 40, M.ch 41, M.ch 123] ++ M.tx (M.tkTr body) := rfl
  rw [e, M.bytesB_app]
  have e2 : M.bytesB [M.kFun, nm, M.ch 40, M.ch 41, M.ch 123] = headT nm := by
    simp only [M.bytesB, headT, List.flatMap_cons, List.flatMap_nil, List.append_nil, List.append_assoc]
    rfl
  rw [e2]
  simp only [List.append_assoc]
theorem one_of {op : Int} {x y p : ByteArray} {a : List M.Opd} {pr : List ByteArray} {th el nx : M.Tr} {k : Nat} (h : M.rTr (.cons op x y p a pr th el nx) k) : M.rTr (M.one op x y p a pr th el) k := ⟨h.1, trivial⟩
theorem st_text {op : Int} {x y p : ByteArray} {a : List M.Opd} {pr : List ByteArray} {th el : M.Tr} (h : M.rTr (M.one op x y p a pr th el) 31) (hc : M.cnt (M.one op x y p a pr th el) ≤ 2000) (hl : (M.bytesB (laidSt op x y p a pr th el)).length + 14 ≤ 65536) :
    (stT (M.one op x y p a pr th el)).data.toList ++ [32] = M.bytesB (laidSt op x y p a pr th el) := by
  have hr : M.rProg (aloneP (M.one op x y p a pr th el)) := ⟨fun f hf => by
    simp only [aloneP, List.mem_singleton] at hf
    subst hf
    exact ⟨by kernel_rfl, (fun s hs => by cases hs), h⟩, by simpa [aloneP, M.cntP] using hc⟩
  have ht : (M.text (aloneP (M.one op x y p a pr th el))).length ≤ 65536 := by
    unfold aloneP
    rw [text_head (hr.fns _ (by simp [aloneP])) rfl]
    have e : M.bytesB (M.laidTr (M.one op x y p a pr th el)) = M.bytesB (laidSt op x y p a pr th el) := rfl
    simp only [List.length_append, e, headT]
    have e3 : (M.text []).length = 0 := rfl
    have e4 : (M.ch 102).data.toList.length = 1 := rfl
    simp only [e3, e4, List.length_cons, List.length_nil]
    omega
  have hb := (prt_yes hr ht).2
  unfold stT
  rw [if_pos hb]
  obtain ⟨c, hc⟩ := bytesB_end (laidSt_ne op x y p a pr th el)
  have e : M.bytesB (M.laidTr (M.one op x y p a pr th el)) = c ++ [32] := hc
  rw [e, hc]
  simp
end Go.Proofs.YtkpmpnebmkeocaaGreatDoor
