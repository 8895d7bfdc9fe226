/-
  An append of bytes that are read somewhere onto bytes of the call's own: the row behind it is the call's own again, and holds both.
-/
import Derived.Test.YtjjkddahfmkhoaaWOwn
import Derived.OwnWalk
import Derived.Deep.AppendLies
namespace Go.Proofs.Ytjjkddahfmkhoaa
set_option linter.unusedVariables false
set_option linter.unusedSimpArgs false
open Go.RowKit

theorem Try.info_byte : (Try.prog.info? 5).map (fun i => (i.zero, i.size, i.bytes)) = some (some (.int .u8 0), 1, 1) := by kernel_rfl
theorem RdB.news {w : World} {B b o : Nat} {xs : List Int} (h : RdB w B (some ⟨b, o, none⟩) xs) (j : Nat) (u : Value) (hu : (vals xs)[j]? = some u) : w.cell? ((⟨b, o, none⟩ : Addr).add j) = some u := by
  have hj : j < xs.length := by
    rcases Nat.lt_or_ge j xs.length with h | h
    · exact h
    · rw [List.getElem?_eq_none (by rw [vals_length]; exact h)] at hu; cases hu
  obtain ⟨b', o', e, _, hc, _⟩ := h j hj
  injection e with e
  injection e with e1 e2
  subst e1 e2
  rw [vals_at xs j hj] at hu
  injection hu with hu
  subst hu
  have e0 : (⟨b, o, none⟩ : Addr).add j = ⟨b, o + j, none⟩ := by
    unfold Addr.add; by_cases h0 : j = 0
    · subst h0; rfl
    · simp [h0]
  rw [e0]
  exact hc
theorem vals_one (xs : List Int) (u : Value) (h : u ∈ vals xs) : u.oneCell' = true := by
  unfold vals at h
  rw [List.mem_map] at h
  obtain ⟨x, _, rfl⟩ := h
  rfl
theorem vals_append (xs ys : List Int) : vals xs ++ vals ys = vals (xs ++ ys) := by unfold vals; rw [List.map_append]
theorem getD_append (xs ys : List Int) (k : Nat) : (xs ++ ys).getD k 0 = if k < xs.length then xs.getD k 0 else ys.getD (k - xs.length) 0 := by
  rw [List.getD_eq_getElem?_getD, List.getElem?_append]
  split
  · rw [List.getD_eq_getElem?_getD]
  · rw [List.getD_eq_getElem?_getD]

theorem app_rd (w : World) {ops : Array Oper} {rs : List Oper} {o : Oper} {a : Act} {Q : Exit → Act → World → Prop} (hgd : o.guard = none)
    (s x : Operand) (ho : o.op = .call { callee := .builtin .append, args := #[s, x], argTypes := #[42, 42] })
    (base g cap k : Nat) (ys : List Int) (hk : ys.length = k) (hs : a.eval s = .slice (some ⟨g, 0, none⟩) k cap) (hown : Own w base g cap ys)
    (B : Nat) (A : Option Addr) (m c : Nat) (xs : List Int) (hm : xs.length = m) (hx : a.eval x = .slice A m c) (hr : RdB w B A xs) (hn : A = none → c = 0)
    (hl : k + m ≤ 1000000) (hbase : base ≤ w.heap.size)
    (h : ∀ g' cap' w', Own w' base g' cap' (ys ++ xs) → w.grownBy w' (some g) → wpList Try.prog ops Q rs (a.put o.dst (.slice (some ⟨g', 0, none⟩) (k + m) cap')) w') :
    wpList Try.prog ops Q (o :: rs) a w := by
  subst hk hm
  rw [← List.length_append] at h
  obtain ⟨i0, hi, hz0, hz1, hz2⟩ := info_parts Try.info_byte
  have hU : ∀ k, k < (ys ++ xs).length → U8 ((ys ++ xs).getD k 0) := fun k hk => by
    rw [getD_append]
    rw [List.length_append] at hk
    split
    · exact hown.2 k (by assumption)
    · obtain ⟨_, _, _, _, _, hu⟩ := hr (k - ys.length) (by omega)
      exact hu
  rcases Nat.eq_zero_or_pos xs.length with h0 | h0
  · obtain rfl : xs = [] := List.eq_nil_of_length_eq_zero h0
    rw [List.append_nil] at h hU
    refine wpList_append_fits_any w hgd s x 42 ho base 5 i0 1 Try.underlying42 hi hz1 g ys.length cap (vals ys) hs hown.1 A 0 c [] hx rfl (fun e => ⟨rfl, hn e⟩) (fun _ _ j u hu => by simp at hu) (fun u hu => by simp at hu) (by have := hown.cap; omega) ?_
    intro w' h1 h2
    rw [Nat.add_zero, List.append_nil] at h1
    exact h g cap w' ⟨h1, hU⟩ h2
  · obtain ⟨b, o', rfl, _, _, _⟩ := hr 0 h0
    refine wpList_append_own w hgd s x 42 ho base 5 i0 (.int .u8 0) 1 1 Try.underlying42 hi hz0 hz1 hz2 rfl (by decide) _ ys.length (vals ys) hs hown.1 ⟨b, o', none⟩ xs.length c (vals xs) hx (by rw [vals_length, Nat.mul_one]) hr.news (vals_one xs) (by unfold maxLen; omega) (by omega) hbase ?_
    intro v' w' h1 h2 h3
    have hpos : 0 < ys.length + xs.length := by omega
    obtain ⟨g', cap', hv, _, _⟩ := h1.form hpos
    subst hv
    rw [vals_append] at h1
    rw [← List.length_append] at h1
    have := h g' cap' w' ⟨h1, hU⟩ h2
    rw [List.length_append] at this
    exact this
end Go.Proofs.Ytjjkddahfmkhoaa
