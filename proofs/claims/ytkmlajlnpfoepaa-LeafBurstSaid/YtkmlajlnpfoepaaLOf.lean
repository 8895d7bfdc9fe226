/-
  A leaf as an argument's reading has it.
-/
import Derived.Test.YtkmlajlnpfoepaaLA
import Derived.Test.YtkmlajlnpfoepaaUWf
import Derived.Deep.Slices
import Derived.OpenShut
namespace Go.Proofs.Ytkmlajlnpfoepaa
set_option linter.unusedVariables false
set_option linter.unusedSimpArgs false
open Go.RowKit Go.ChangeShapes Go.WideShapes Go.Deep

theorem Try.cells_leaf : Try.prog.cellsOf 24 = 121 := by kernel_rfl
theorem Try.cells_int : Try.prog.cellsOf 3 = 1 := by kernel_rfl
theorem one_at (l : List Value) (i : Nat) (h : i < l.length) : (l.drop i).take 1 = [l[i]] := by
  rw [List.drop_eq_getElem_cons h]; rfl
theorem leaf_of {H : Type} {enc : TypeId × Value → H} {w : World} {r : Reach} {b0 base : Nat} {spare : Nat → Bool} {held : Bool} {v : Value} {d : DataW H} {p : List MemPlace}
    (hv : Value.okWide Try.prog w r b0 24 v) (h : DataW.Trod enc Try.prog w base spare held 24 v d p) : ∃ L : Lf, v = .agg (lv L).toArray ∧ L.Ok := by
  obtain ⟨cs, rfl, hsz⟩ := okWide_struct Try.underlying24 hv
  rw [Try.cells_leaf] at hsz
  obtain ⟨fuel, hf⟩ := h
  obtain ⟨xs, n, _, _, hlen, hxl, hg⟩ := DataW.trod_struct Try.underlying24 hf
  obtain ⟨l⟩ := cs
  have hl : l.length = 121 := by simpa using hsz
  have hxl : xs.length = 6 := hxl
  have num : ∀ i, i < 5 → ∃ z, l[i]? = some (.int .i64 z) ∧ (Lit.int .i64 z).wf = true := fun i hi => by
    have g : DataW.trod enc Try.prog w base spare held n 3 [l[i]'(by omega)] = some (xs[i]'(by omega)) := by
      rw [← one_at l i (by omega), ← List.getElem?_eq_getElem (by omega)]
      match i, hi with
      | 0, _ => exact hg 0 _ rfl
      | 1, _ => exact hg 1 _ rfl
      | 2, _ => exact hg 2 _ rfl
      | 3, _ => exact hg 3 _ rfl
      | 4, _ => exact hg 4 _ rfl
    obtain ⟨z, e, _, q⟩ := DataW.trod_int Try.underlying3 g
    injection e with e
    exact ⟨z, by rw [List.getElem?_eq_getElem (by omega), e], q⟩
  have byt : ∀ j, j < 116 → ∃ z, l[5 + j]? = some (.int .u8 z) ∧ (Lit.int .u8 z).wf = true := fun j hj => by
    have g5 : DataW.trod enc Try.prog w base spare held n 22 ((l.drop 5).take 116) = some (xs[5]'(by omega)) := by
      rw [← List.getElem?_eq_getElem (by omega)]
      exact hg 5 _ rfl
    obtain ⟨ys, m, _, _, _, hyl, hy⟩ := DataW.trod_array Try.underlying22 g5
    have g := hy j hj
    rw [Try.cells_byte, Nat.mul_one] at g
    have e1 : ((l.drop 5).take 116).drop j = ((l.drop 5).drop j).take (116 - j) := by rw [List.drop_take]
    have e2 : (((l.drop 5).take 116).drop j).take 1 = [l[5 + j]'(by omega)] := by
      rw [e1, List.take_take, Nat.min_eq_left (by omega), List.drop_drop, one_at l (5 + j) (by omega)]
    rw [e2, List.getElem?_eq_getElem (by omega)] at g
    obtain ⟨z, e, _, q⟩ := DataW.trod_int Try.underlying5 g
    injection e with e
    exact ⟨z, by rw [List.getElem?_eq_getElem (by omega), e], q⟩
  obtain ⟨k, k1, k2⟩ := num 0 (by decide)
  obtain ⟨f, f1, f2⟩ := num 1 (by decide)
  obtain ⟨q, q1, q2⟩ := num 2 (by decide)
  obtain ⟨x, x1, x2⟩ := num 3 (by decide)
  obtain ⟨s, s1, s2⟩ := num 4 (by decide)
  obtain ⟨F, hF⟩ := choose_lt (n := 116) byt
  have gl : ∀ j, j < 116 → ((List.range 116).map F).getD j 0 = F j := fun j hj => by
    rw [List.getD_eq_getElem?_getD, List.getElem?_map, List.getElem?_range hj]; rfl
  have ln : ((List.range 116).map F).length = 116 := by rw [List.length_map, List.length_range]
  refine ⟨⟨k, f, q, x, s, (List.range 116).map F⟩, ?_, ⟨i64_of k2, i64_of f2, i64_of q2, i64_of x2, i64_of s2, ln, fun j hj => ?_⟩⟩
  · congr 1
    apply congrArg List.toArray
    apply List.ext_getElem?
    intro i
    by_cases hi : i < 5
    · match i, hi with
      | 0, _ => exact k1
      | 1, _ => exact f1
      | 2, _ => exact q1
      | 3, _ => exact x1
      | 4, _ => exact s1
    · obtain ⟨j, rfl⟩ : ∃ j, i = 5 + j := ⟨i - 5, by omega⟩
      by_cases hj : j < 116
      · rw [(hF j hj).1]
        have e : (lv ⟨k, f, q, x, s, (List.range 116).map F⟩)[5 + j]? = (vals ((List.range 116).map F))[j]? := by rw [Nat.add_comm]; rfl
        rw [e, vals_at _ j (by rw [ln]; exact hj), gl j hj]
      · rw [List.getElem?_eq_none (by omega)]
        have e : (lv ⟨k, f, q, x, s, (List.range 116).map F⟩)[5 + j]? = (vals ((List.range 116).map F))[j]? := by rw [Nat.add_comm]; rfl
        rw [e, List.getElem?_eq_none (by rw [vals_length, ln]; omega)]
  · have hj : j < ((List.range 116).map F).length := hj
    rw [ln] at hj
    show U8 (((List.range 116).map F).getD j 0)
    rw [gl j hj]
    exact u8_of (hF j hj).2
end Go.Proofs.Ytkmlajlnpfoepaa
