/-
  The walk of the statement MoneyRuns: the call returns true; nothing that was in memory turns.
-/
import Derived.Test.YtddlannblopbeaaMA
namespace Go.Proofs.Ytddlannblopbeaa
set_option linter.unusedVariables false
set_option linter.unusedSimpArgs false
open Go.RowKit

set_option maxHeartbeats 1000000 in
theorem runs_any (w : World) : Calls Try.prog 3 #[] w fun e w' => e = .returned (.bool true) ∧ Below w.heap.size w w' := by
  have k1 := fun w0 => scale_yes 10 1 4 2 ⟨by decide, by decide⟩ ⟨by decide, by decide⟩ (by decide) (by decide) (by decide) ⟨by decide, by decide⟩ w0
  have k2 := fun w0 => split_any 7 5000 ⟨by decide, by decide⟩ w0
  have k3 := fun w0 => split_any (-7) 5000 ⟨by decide, by decide⟩ w0
  have e1 : shareI 7 5000 = 4 := by decide
  have e2 : shareI (-7) 5000 = -4 := by decide
  rw [e1] at k2; rw [e2] at k3
  clear e1 e2
  go_enter Try.func3, Try.ntmps3
  go_wp2_with fail
  refine (k1 _).mono ?_
  rintro e w1 ⟨rfl, b1⟩
  go_wp2_with fail
  refine (k2 _).mono ?_
  rintro e w2 ⟨rfl, b2⟩
  go_wp2_with fail
  refine (k3 _).mono ?_
  rintro e w3 ⟨rfl, b3⟩
  go_wp2_with fail
  have z1 : hiW 0 = 0 := by decide
  have z2 : loW 0 = 0 := by decide
  have C0 := Cell2.new w3 (.int .i64 (hiW 0)) (.int .u64 (loW 0)) 30
  have B0 : Below w.heap.size w (w3.alloc (.cells #[.int .i64 (hiW 0), .int .u64 (loW 0)] 30)) := bstep (bstep (bstep b1 b2) b3) ((Below.refl _ _).alloc (Nat.le_refl _) _)
  have hn : w.heap.size ≤ w3.heap.size := (bstep (bstep b1 b2) b3).size
  rw [z1, z2] at C0 B0
  generalize w3.alloc (.cells #[.int .i64 0, .int .u64 0] 30) = W at *
  generalize w3.heap.size = n3 at *
  have C0' : Cell2 W n3 (.int .i64 (hiW 0)) (.int .u64 (loW 0)) := by rw [z1, z2]; exact C0
  clear z1 z2 C0 b1 b2 b3
  refine (sadd_any 0 9223372036854775807 ⟨by decide, by decide⟩ n3 _ C0').mono ?_
  rintro e w4 ⟨rfl, s4⟩
  have C4 := s4.cell C0'
  have B4 := s4.below B0 hn
  clear C0' B0 s4
  go_wp2_with fail
  refine (sadd_any _ 1 ⟨by decide, by decide⟩ n3 _ C4).mono ?_
  rintro e w5 ⟨rfl, s5⟩
  have C5 := s5.cell C4
  have B5 := s5.below B4 hn
  clear C4 B4 s5
  go_wp2_with fail
  refine (svalue_no _ ⟨by decide, by decide⟩ (fun h => absurd h.2 (by decide)) n3 _ C5).mono ?_
  rintro e w6 ⟨rfl, b6⟩
  have C6 := C5.below b6
  have B6 := bstep B5 b6
  clear C5 B5 b6
  go_wp2_with fail
  refine (sadd_any _ (-1) ⟨by decide, by decide⟩ n3 _ C6).mono ?_
  rintro e w7 ⟨rfl, s7⟩
  have C7 := s7.cell C6
  have B7 := s7.below B6 hn
  clear C6 B6 s7
  go_wp2_with fail
  refine (svalue_yes 9223372036854775807 ⟨by decide, by decide⟩ n3 _ C7).mono ?_
  rintro e w8 ⟨rfl, b8⟩
  go_wp2
  go_ret
  exact ⟨rfl, bstep B7 b8⟩
end Go.Proofs.Ytddlannblopbeaa
