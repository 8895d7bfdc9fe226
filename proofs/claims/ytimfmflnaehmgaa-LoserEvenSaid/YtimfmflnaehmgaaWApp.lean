/-
  An append of bytes that are read somewhere onto bytes of the call's own: the row behind it is the call's own again, and holds both.
-/
import Derived.Test.YtimfmflnaehmgaaWOwn
import Derived.OwnWalk
import Derived.Deep.AppendLies
namespace Go.Proofs.Ytimfmflnaehmgaa
set_option linter.unusedVariables false
set_option linter.unusedSimpArgs false
open Go.RowKit

theorem Try.info_byte : (Try.prog.info? 5).map (fun i => (i.zero, i.size, i.bytes)) = some (some (.int .u8 0), 1, 1) := by kernel_rfl
theorem RdB.news {w : World} {B b o : Nat} {xs : List Int} (h : RdB w B (some ⟨b, o, none⟩) xs) (j : Nat) (u : Value) (hu : (vals xs)[j]? = some u) : w.cell? ((⟨b, o, none⟩ : Addr).add j) = some u := by
  have hj : j < xs.length := by
    rcases Nat.lt_or_ge j xs.length with h | h
    · exact h
    · rw [List.getElem?_eq_none (by rw [vals_length]; exact h)] at hu; cases hu
  obtain ⟨b', o', e, _, hc, _⟩ := h j hj
  injection e with e
  injection e with e1 e2
  subst e1 e2
  rw [vals_at xs j hj] at hu
  injection hu with hu
  subst hu
  have e0 : (⟨b, o, none⟩ : Addr).add j = ⟨b, o + j, none⟩ := by
    unfold Addr.add; by_cases h0 : j = 0
    · subst h0; rfl
    · simp [h0]
  rw [e0]
  exact hc
theorem vals_one (xs : List Int) (u : Value) (h : u ∈ vals xs) : u.oneCell' = true := by
  unfold vals at h
  rw [List.mem_map] at h
  obtain ⟨x, _, rfl⟩ := h
  rfl
theorem vals_append (xs ys : List Int) : vals xs ++ vals ys = vals (xs ++ ys) := by unfold vals; rw [List.map_append]
theorem getD_append (xs ys : List Int) (k : Nat) : (xs ++ ys).getD k 0 = if k < xs.length then xs.getD k 0 else ys.getD (k - xs.length) 0 := by
  rw [List.getD_eq_getElem?_getD, List.getElem?_append]
  split
  · rw [List.getD_eq_getElem?_getD]
  · rw [List.getD_eq_getElem?_getD]

end Go.Proofs.Ytimfmflnaehmgaa
