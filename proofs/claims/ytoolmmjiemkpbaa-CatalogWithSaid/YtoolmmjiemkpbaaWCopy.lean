/-
  copy of bytes that are read somewhere onto the beginning of bytes of the call's own.
-/
import Derived.Test.YtoolmmjiemkpbaaWApp
import Derived.Laws.CopyOwn
namespace Go.Proofs.Ytoolmmjiemkpbaa
set_option linter.unusedVariables false
set_option linter.unusedSimpArgs false
set_option maxRecDepth 100000
open Go.RowKit

theorem RdB.some_of {w : World} {B : Nat} {A : Option Addr} {xs : List Int} (h : RdB w B A xs) (hp : 0 < xs.length) : ∃ ad, A = some ad ∧ ∀ (j : Nat) (v : Value), (vals xs)[j]? = some v → w.cell? (ad.add j) = some v := by
  obtain ⟨b, o, rfl, _, _, _⟩ := h 0 hp
  exact ⟨_, rfl, h.news⟩
theorem copy_rd {w : World} {ops : Array Oper} {rs : List Oper} {o : Oper} {a : Act} {Q : Exit → Act → World → Prop} (hgd : o.guard = none)
    (d s : Operand) (ho : o.op = .call { callee := .builtin .copy, args := #[d, s], argTypes := #[43, 43] })
    (base g cap n : Nat) (ys : List Int) (hn : ys.length = n) (hd : a.eval d = .slice (some ⟨g, 0, none⟩) n cap) (hown : Own w base g cap ys)
    (B : Nat) (A : Option Addr) (m c : Nat) (xs : List Int) (hm : xs.length = m) (hs : a.eval s = .slice A m c) (hr : RdB w B A xs) (hmn : m ≤ n)
    (w0 : World) (hb : Below w0.heap.size w0 w) (hg : w0.heap.size ≤ g)
    (h : ∀ w', Own w' base g cap (xs ++ ys.drop m) → Below w0.heap.size w0 w' → wpList Try.prog ops Q rs (a.put o.dst (goInt (m : Int))) w') :
    wpList Try.prog ops Q (o :: rs) a w := by
  obtain ⟨i0, hi, hz0, hz1, hz2⟩ := info_parts Try.info_byte
  rcases hown.1.2 with ⟨e, _⟩ | ⟨g', cap', cur, e, hbase, hheap, hle, hcap, hsz, htake⟩
  · cases e
  injection e with e1 e2 e3
  injection e1 with e1
  injection e1 with e1
  subst e1 e3
  rw [Nat.mul_one] at hsz htake
  have hcl : cur.toList.length = cap := by simpa using hsz
  refine wpList_copy_splice hgd d s 43 43 ho 5 Try.underlying43 (by rw [hi]; simp [hz1]) (some ⟨g, 0, none⟩) A n cap m c hd hs g 0 cur.toList 5 (by simpa using hheap) (vals xs) (by rw [vals_length, hm]; exact (Nat.min_eq_left hmn).symm) (fun hp => ⟨rfl, hr.some_of (by rw [vals_length] at hp; exact hp)⟩) (by rw [vals_length, hm]; omega) (vals_one xs) w0.heap.size w0 hb hg ?_
  intro w' H b
  rw [vals_length, hm]
  refine h w' ⟨?_, fun k hk => ?_⟩ b
  · have hlen : (xs ++ ys.drop m).length = n := by rw [List.length_append, List.length_drop]; omega
    have hv : vals (xs ++ ys.drop m) = (splice cur.toList 0 (vals xs)).take n := by
      unfold splice
      rw [List.take_zero, List.nil_append, Nat.zero_add, vals_length, hm, List.take_append, vals_length, hm, List.take_of_length_le (by rw [vals_length]; omega), ← vals_append]
      congr 1
      have : vals (ys.drop m) = (vals ys).drop m := by unfold vals; rw [List.map_drop]
      rw [this, ← htake, List.drop_take, hn]
    have hsl : (splice cur.toList 0 (vals xs)).length = cap := by
      unfold splice
      rw [List.take_zero, List.nil_append, Nat.zero_add, List.length_append, List.length_drop, vals_length, hcl]
      omega
    refine ⟨by rw [vals_length, Nat.mul_one], Or.inr ⟨g, cap, (splice cur.toList 0 (vals xs)).toArray, rfl, hbase, H.out, by rw [hlen]; omega, hcap, by simp [hsl], ?_⟩⟩
    rw [hlen, Nat.mul_one, hv]
  · rw [getD_append]
    split
    · obtain ⟨_, _, _, _, _, hu⟩ := hr k (by assumption)
      exact hu
    · rw [List.length_append, List.length_drop] at hk
      have := hown.2 (m + (k - xs.length)) (by omega)
      rw [List.getD_eq_getElem?_getD, List.getElem?_drop, ← List.getD_eq_getElem?_getD]
      exact this
end Go.Proofs.Ytoolmmjiemkpbaa
