/-
  A slice of slices of ints as an argument's reading has it, and how long its rows may be.
-/
import Derived.Test.YtimfmflnaehmgaaLPm
import Derived.Deep.Matrix
import Derived.SizedLaws
namespace Go.Proofs.Ytimfmflnaehmgaa
set_option linter.unusedVariables false
set_option linter.unusedSimpArgs false
open Go.RowKit Go.ChangeShapes Go.WideShapes Go.Deep

theorem spot_of_l {w : World} {a : Addr} {v : Value} (h : w.cell? (a.add 0) = some v) : ∃ b o, a = ⟨b, o, none⟩ := by
  obtain ⟨b, o, spot⟩ := a
  have hs : spot = none := by simpa [Addr.add] using World.cell?_spot h
  subst hs
  exact ⟨b, o, rfl⟩
theorem add_at_l (b o k : Nat) : (⟨b, o, none⟩ : Addr).add k = ⟨b, o + k, none⟩ := by
  unfold Addr.add
  split
  · subst k; rfl
  · rfl
theorem weightsAll_mem {H : Type} (P : Program) (e : TypeId) : ∀ (l : List (DataW H)) (d : DataW H), d ∈ l → ∀ x, x ∈ d.weights P e → x ∈ DataW.weightsAll P e l
  | [], d, h, _, _ => by cases h
  | a :: l, d, h, x, hx => by
    rw [DataW.weightsAll, List.mem_append]
    rcases List.mem_cons.1 h with e' | e'
    · subst e'; exact Or.inl hx
    · exact Or.inr (weightsAll_mem P e l d e' x hx)
theorem weights_first {H : Type} {P : Program} {t : TypeId} {ts : List TypeId} {d : DataW H} {r : List (DataW H)} (h : (DataW.weightsEach P (t :: ts) (d :: r)).all (· ≤ reachBytes) = true) : (d.weights P t).all (· ≤ reachBytes) = true := by
  rw [DataW.weightsEach, List.all_append, Bool.and_eq_true] at h
  exact h.1
theorem bytes_int : Try.prog.bytesOf 3 = 8 := by kernel_rfl
theorem grid_of {H : Type} {enc : TypeId × Value → H} {w : World} {fuel : Nat} {A : Option Addr} {len cap : Nat} {x : DataW H × List MemPlace} (h : DataW.trod enc Try.prog w 0 (fun _ => true) true fuel 34 [.slice A len cap] = some x) (hz : (x.1.weights Try.prog 34).all (· ≤ reachBytes) = true) :
    ∃ g, GIn w A len g ∧ len ≤ cap ∧ cap ≤ maxLen := by
  rcases open_int_rows Try.underlying34 Try.underlying27 Try.underlying3 (by kernel_rfl) (by kernel_rfl) h with ⟨h0, _⟩ | ⟨a, len', cap', Ar, L, C, Z, h0, hb, hl, hm, hx, hr⟩
  · injection h0 with h0 _
    injection h0 with h0 h1 h2
    subst h0 h1 h2
    exact ⟨fun _ => (none, 0, []), ⟨fun k hk => by omega⟩, Nat.le_refl _, Nat.zero_le _⟩
  · injection h0 with h0 _
    injection h0 with h0 h1 h2
    subst h0 h1 h2
    refine ⟨fun r => (Ar r, C r, (Z r).take (L r)), ⟨fun k hk => ?_⟩, hl, hm⟩
    obtain ⟨q1, q2, q3, q4, _, q5, q6⟩ := hr k (by omega)
    obtain ⟨b, o, rfl⟩ := spot_of_l (hr 0 (by omega)).1
    rw [add_at_l] at q1
    have hlen : ((Z k).take (L k)).length = L k := by rw [List.length_take, q4]; omega
    refine ⟨b, o, rfl, World.block_lt_of_cell? _ _ q1, by show _ = some (Value.slice (Ar k) ((Z k).take (L k)).length (C k)); rw [hlen]; exact q1, fun j y hj => ?_, ?_⟩
    · have hjL : j < L k := by
        have hj' : ((Z k).take (L k))[j]? = some y := hj
        have := (List.getElem?_eq_some_iff.1 hj').1
        omega
      rcases hA : Ar k with _ | a'
      · have := q5 hA; omega
      · obtain ⟨_, q7⟩ := q6 a' hA
        have q8 := q7 j (by omega)
        obtain ⟨b', o', rfl⟩ := spot_of_l (q7 0 (by omega))
        rw [add_at_l] at q8
        refine ⟨b', o', by first | rfl | exact hA, World.block_lt_of_cell? _ _ q8, ?_⟩
        rw [q8]
        have hj' : ((Z k).take (L k))[j]? = some y := hj
        rw [List.getElem?_take, if_pos hjL] at hj'
        rw [List.getD_eq_getElem?_getD, hj']
        rfl
    · show ((Z k).take (L k)).length ≤ _
      rw [hlen]
      rcases hA : Ar k with _ | a'
      · have := q5 hA; omega
      · have hw : C k * 8 ∈ x.1.weights Try.prog 34 := by
          rw [hx]
          show C k * 8 ∈ DataW.weights Try.prog 34 (.slice _ _)
          rw [DataW.weights, Try.underlying34]
          refine List.mem_cons_of_mem _ (List.mem_append_left _ (weightsAll_mem _ _ _ (intRow .i64 (Ar k) (L k) (Z k)) (List.mem_map.2 ⟨k, List.mem_range.2 hk, rfl⟩) _ ?_))
          unfold intRow
          rw [hA]
          show C k * 8 ∈ DataW.weights Try.prog 27 (.slice _ _)
          rw [DataW.weights, Try.underlying27]
          have e : (lits (H := H) .i64 ((Z k).take (L k))).length + (lits (H := H) .i64 ((Z k).drop (L k))).length = C k := by
            simp [lits]; omega
          show C k * 8 ∈ _ * Try.prog.bytesOf 3 :: _
          rw [bytes_int, e]
          exact List.mem_cons_self ..
        have := List.all_eq_true.1 hz _ hw
        have h8 : C k * 8 ≤ reachBytes := by simpa using this
        unfold reachBytes at h8
        omega
end Go.Proofs.Ytimfmflnaehmgaa
