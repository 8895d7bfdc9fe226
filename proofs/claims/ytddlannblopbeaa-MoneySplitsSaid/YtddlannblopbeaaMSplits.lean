/-
  The walk of the statement MoneySplits: for every two ints the call returns true; nothing that was in memory turns.
-/
import Derived.Test.YtddlannblopbeaaMRuns
import Derived.Test.YtddlannblopbeaaBClamp
namespace Go.Proofs.Ytddlannblopbeaa
set_option linter.unusedVariables false
set_option linter.unusedSimpArgs false
open Go.RowKit

theorem share_none (n : Int) : shareI n 0 = 0 := by
  have e : partI 0 = 0 := by decide
  unfold shareI; rw [e, Int.mul_zero]; decide
theorem share_all (n : Int) : shareI n 10000 = n := by
  have e : partI 10000 = 10000 := by decide
  unfold shareI; rw [e]; exact nearS_whole n 10000 (by decide)
theorem share_other (n p : Int) : -1 ≤ shareI n (10000 - partI p) - (n - shareI n p) ∧ shareI n (10000 - partI p) - (n - shareI n p) ≤ 1 := by
  have hb := partI_bd p
  have e : partI (10000 - partI p) = 10000 - partI p := partI_in _ (by omega) (by omega)
  have a := nearS_10000 (n * partI p)
  have b := nearS_10000 (n * (10000 - partI p))
  have m : n * (10000 - partI p) = n * 10000 - n * partI p := Int.mul_sub _ _ _
  unfold shareI
  rw [e]
  omega

set_option maxHeartbeats 1000000 in
theorem splits_any (n p : Int) (hn : I64 n) (hp : I64 p) (w : World) : Calls Try.prog 5 #[.int .i64 n, .int .i64 p] w fun e w' => e = .returned (.bool true) ∧ Below w.heap.size w w' := by
  have k1 := fun w0 => split_any n p hn w0
  have k2 := fun w0 => split_any n 0 hn w0
  have k3 := fun w0 => split_any n 10000 hn w0
  have k4 := fun w0 => split_any n (10000 - partI p) hn w0
  rw [share_none] at k2
  rw [share_all] at k3
  obtain ⟨o1, o2⟩ := share_other n p
  obtain ⟨s1, s2⟩ := share_bd n p
  have ⟨i1, i2⟩ := share_I64 (p := p) hn
  have ⟨i3, i4⟩ := share_I64 (p := 10000 - partI p) hn
  have hb := partI_bd p
  have k5 := fun w0 => clamp_any p 0 10000 (by decide) w0
  generalize shareI n p = S at *
  generalize shareI n (10000 - partI p) = T at *
  change ∀ w0, Calls Try.prog _ _ w0 fun e w' => e = .returned (.int .i64 (partI p)) ∧ w0 = w' at k5
  generalize partI p = P at *
  have t1 : IntKind.i64.wrap (S + (n - S)) = n := by rw [IntKind.wrap_i64]; unfold I64 at hn; omega
  have t1' : wrap64 (S + (n - S)) = n := by unfold wrap64; unfold I64 at hn; omega
  have u1 : IntKind.i64.wrap (T - (n - S)) = T - (n - S) := by rw [IntKind.wrap_i64]; omega
  have u1' : wrap64 (T - (n - S)) = T - (n - S) := by unfold wrap64; omega
  have u2 : IntKind.i64.wrap (n - T - S) = n - T - S := by rw [IntKind.wrap_i64]; omega
  have u2' : wrap64 (n - T - S) = n - T - S := by unfold wrap64; omega
  have v1 : -1 ≤ n - T - S ∧ n - T - S ≤ 1 := by omega
  obtain ⟨o3, o4⟩ := v1
  have pw : IntKind.i64.wrap (10000 - P) = 10000 - P := by rw [IntKind.wrap_i64]; omega
  have pw' : wrap64 (10000 - P) = 10000 - P := by unfold wrap64; omega
  have key : (0 < n ∧ 0 ≤ S ∧ 0 ≤ n - S) ∨ (n = 0 ∧ S = 0) ∨ (n < 0 ∧ S ≤ 0 ∧ n - S ≤ 0) := by
    rcases Int.lt_trichotomy n 0 with h | h | h
    · have := s2 (by omega); omega
    · have := s2 (by omega); have := s1 (by omega); omega
    · have := s1 (by omega); omega
  clear s1 s2
  have K1 := Lib.hid k1; have K2 := Lib.hid k2; have K3 := Lib.hid k3; have K4 := Lib.hid k4; have K5 := Lib.hid k5
  clear k1 k2 k3 k4 k5
  rcases key with ⟨g1, g2, g3⟩ | ⟨rfl, rfl⟩ | ⟨g1, g2, g3⟩
  all_goals
    go_enter Try.func5, Try.ntmps5
    go_wp2_with fail
    refine (K1.out _).mono ?_
    rintro e w1 ⟨rfl, b1⟩
    go_wp2_with fail
    refine (K2.out _).mono ?_
    rintro e w2 ⟨rfl, b2⟩
    go_wp2_with fail
    refine (K3.out _).mono ?_
    rintro e w3 ⟨rfl, b3⟩
    go_wp2_with fail
    refine (K5.out _).mono ?_
    rintro e w4 ⟨rfl, rfl⟩
    go_wp2_with fail
    refine (K4.out _).mono ?_
    rintro e w5 ⟨rfl, b5⟩
    go_wp2_with fail
    refine (runs_any _).mono ?_
    rintro e w6 ⟨rfl, b6⟩
    go_wp2
    go_ret
    exact ⟨rfl, bstep (bstep (bstep (bstep b1 b2) b3) b5) b6⟩
end Go.Proofs.Ytddlannblopbeaa
