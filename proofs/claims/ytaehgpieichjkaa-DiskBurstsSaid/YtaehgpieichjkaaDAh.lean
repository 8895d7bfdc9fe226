/-
  The program's disk: New.
-/
import Derived.Test.YtaehgpieichjkaaDAg
namespace Go.Proofs.Ytaehgpieichjkaa
set_option linter.unusedVariables false
set_option linter.unusedSimpArgs false
open Go.RowKit

theorem bl_new (n : Nat) : bl (Dk.new n) = List.replicate n (vals (fillB 0) ++ [Value.bool false]) := by
  unfold bl Dk.new
  apply List.ext_getElem?
  intro k
  rw [List.getElem?_zipWith, List.getElem?_replicate, List.getElem?_replicate, List.getElem?_replicate]
  by_cases h : k < n
  · rw [if_pos h, if_pos h, if_pos h]
  · rw [if_neg h, if_neg h, if_neg h]
theorem made_flat (x : List Value) (n : Nat) (hx : x.length = 129) : (madeCells x.toArray (n * 129)).toList = (List.replicate n x).flatten := by
  have hE : Even 129 (List.replicate n x) := fun l hl => by rw [List.mem_replicate] at hl; rw [hl.2]; exact hx
  apply List.ext_getElem?
  intro j
  by_cases hj : j < n * 129
  · have h1 : j / 129 < n := by omega
    have h2 : j / 129 * 129 + j % 129 = j := by omega
    have h3 := hE.at (j / 129) (j % 129) (by rw [List.length_replicate]; exact h1) (Nat.mod_lt _ (by decide))
    rw [h2] at h3
    rw [h3]
    have e : (List.replicate n x).getD (j / 129) [] = x := by rw [List.getD_eq_getElem?_getD, List.getElem?_replicate, if_pos h1]; rfl
    rw [e]
    unfold madeCells
    have h4 : j % 129 < x.length := by rw [hx]; exact Nat.mod_lt _ (by decide)
    simp [hj, hx, h4, List.getElem?_eq_getElem h4]
  · rw [List.getElem?_eq_none (l := (List.replicate n x).flatten) (by rw [Even.len hE, List.length_replicate]; omega)]
    apply List.getElem?_eq_none
    unfold madeCells
    simp
    omega
theorem Try.info_block : (Try.prog.info? 68).map (fun i => (i.zero, i.size, i.bytes)) = some (some (.agg (vals (fillB 0) ++ [Value.bool false]).toArray), 129, 129) := by kernel_rfl

set_option maxRecDepth 100000 in
set_option maxHeartbeats 2000000 in
theorem disk_new (n : Nat) (h1 : 1 ≤ n) (h2 : n ≤ 512) (w : World) : Calls Try.prog 9 #[.int .i64 n] w fun e w' => ∃ b F, e = .returned (.pointer (some ⟨b, 0, none⟩)) ∧ DiskAt w' F b (Dk.new n) ∧ (∀ k, F k → w.heap.size ≤ k) ∧ Below w.heap.size w w' := by
  have d1 : decide ((n : Int) < 1) = false := by rw [decide_eq_false_iff_not]; omega
  have d2 : decide ((n : Int) > 512) = false := by rw [decide_eq_false_iff_not]; omega
  have d3 : decide ((512 : Int) < (n : Int)) = false := by rw [decide_eq_false_iff_not]; omega
  obtain ⟨j0, hj0, hz0, hz1, hz2⟩ := info_parts Try.info_block
  have HJ := Lib.hid hj0; have HZ0 := Lib.hid hz0; have HZ1 := Lib.hid hz1; have HZ2 := Lib.hid hz2
  clear hj0 hz0 hz1 hz2
  go_enter Try.func9, Try.ntmps9
  go_wp2_with (with_reducible refine wpList_make_full w rfl _ _ 58 rfl w.heap.size 68 j0 _ 129 Try.underlying58 HJ.out HZ0.out HZ1.out .i64 .i64 n n n rfl rfl rfl rfl (by rw [HZ2.out]; omega) (by unfold maxLen; omega) (Nat.le_refl _) ?_)
  intro w1 ho hg
  have e0 : (madeCells (vals (fillB 0) ++ [Value.bool false]).toArray (n * 129)).toList = (bl (Dk.new n)).flatten := by rw [bl_new]; exact made_flat _ n (by rw [List.length_append, vals_length, fillB_length]; rfl)
  have ho' : RowN w1 0 68 129 (some ⟨w.heap.size, 0, none⟩) n n (bl (Dk.new n)).flatten := by
    rw [← e0]
    have : RowN w1 w.heap.size 68 129 (some ⟨w.heap.size, 0, none⟩) n n _ := ho
    exact this.weak (fun _ _ => Nat.zero_le _)
  have HO := Lib.hid ho'; have b1 : Below w.heap.size w w1 := Below.grown (Below.refl _ _) hg (Nat.le_refl _) (fun k hk => by cases hk)
  have B1 := Lib.hid b1
  have s1 := (ho'.lt _ rfl).2
  have s1 : w.heap.size < w1.heap.size := s1
  clear ho ho' hg e0 b1
  go_wp2
  go_ret
  refine ⟨w1.heap.size, rfl, fun k => k = w.heap.size ∨ k = w1.heap.size, ⟨w.heap.size, n, none, 0, ?_⟩, fun k (hk : k = w.heap.size ∨ k = w1.heap.size) => by omega, B1.out.alloc (by omega) _⟩
  have ln : (Dk.new n).blk.length = n := by unfold Dk.new; simp
  refine ⟨Dk.Ok.new h1 h2, ?_, ?_, RowN.nil _ _ _ _, Or.inr rfl, Or.inl rfl, fun a ha => (by cases ha), fun k (hk : k = w.heap.size ∨ k = w1.heap.size) => by simp; omega⟩
  · have := Arr.new w1 61 [.slice (some ⟨w.heap.size, 0, none⟩) n n, .slice none 0 0, .int .i64 (-1), .bool false, .int .i64 0]
    have e : dkCells (Dk.new n) w.heap.size n none 0 = [.slice (some ⟨w.heap.size, 0, none⟩) n n, .slice none 0 0, .int .i64 (-1), .bool false, .int .i64 0] := by
      unfold dkCells
      rw [ln]
      rfl
    rw [e]
    exact this
  · rw [ln]
    exact HO.out.alloc _
theorem disk_none (n : Int) (h0 : -9223372036854775808 ≤ n) (h1 : n ≤ 9223372036854775807) (h : n < 1 ∨ 512 < n) (w : World) : Calls Try.prog 9 #[.int .i64 n] w fun e w' => e = .returned (.pointer none) ∧ Below w.heap.size w w' := by
  go_enter Try.func9, Try.ntmps9
  by_cases t1 : n < 1
  · have d1 : decide (n < 1) = true := by simpa using t1
    go_wp2
    go_ret
    exact ⟨rfl, Below.refl _ _⟩
  · have d1 : decide (n < 1) = false := by simpa using t1
    have d2 : decide (512 < n) = true := by rw [decide_eq_true_eq]; omega
    have d3 : decide (n > 512) = true := by rw [decide_eq_true_eq]; omega
    go_wp2
    go_ret
    exact ⟨rfl, Below.refl _ _⟩
end Go.Proofs.Ytaehgpieichjkaa
