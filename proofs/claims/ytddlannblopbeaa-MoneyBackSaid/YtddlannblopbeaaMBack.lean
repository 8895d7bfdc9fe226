/-
  The walk of the statement MoneyBack: for every three ints the call returns true; nothing that was in memory turns.
-/
import Derived.Test.YtddlannblopbeaaMRuns
import Derived.Test.YtddlannblopbeaaBWithinI
import Derived.Test.YtddlannblopbeaaWAnd
namespace Go.Proofs.Ytddlannblopbeaa
set_option linter.unusedVariables false
set_option linter.unusedSimpArgs false
open Go.RowKit

theorem nearS_two (x : Int) : nearS (2 * x + 1) 2 % 2 = 0 ∧ (nearS (2 * x + 1) 2 = x ∨ nearS (2 * x + 1) 2 = x + 1) := by
  unfold nearS near
  split <;> split <;> (try split) <;> (try split) <;> omega
theorem nearS_big (m : Int) (h0 : 1 ≤ m) (h1 : m ≤ 1024) : ¬ I64 (nearS (4611686018427387904 * 1048576) m) := by
  have e : nearS (4611686018427387904 * 1048576) m = near (4611686018427387904 * 1048576) m := rfl
  have b := (near_bd (4611686018427387904 * 1048576) m).1
  have q : 4722366482869645213696 ≤ 4611686018427387904 * 1048576 / m := by
    apply Int.le_ediv_of_mul_le (by omega)
    have := Int.mul_le_mul_of_nonneg_left h1 (show (0 : Int) ≤ 4722366482869645213696 by decide)
    omega
  rw [e]
  intro h
  have := h.2
  omega
theorem back_prod (x k : Int) (x0 : -1099511627776 ≤ x) (x1 : x ≤ 1099511627776) (k0 : 1 ≤ k) (k1 : k ≤ 1048576) : -1152921504606846976 ≤ x * k ∧ x * k ≤ 1152921504606846976 := by
  have a1 := Int.mul_le_mul_of_nonneg_right x0 (show 0 ≤ k by omega)
  have a2 := Int.mul_le_mul_of_nonneg_right x1 (show 0 ≤ k by omega)
  omega

set_option maxHeartbeats 1000000 in
theorem back_any (n b d : Int) (hn : I64 n) (hb : I64 b) (hd : I64 d) (w : World) : Calls Try.prog 7 #[.int .i64 n, .int .i64 b, .int .i64 d] w fun e w' => e = .returned (.bool true) ∧ Below w.heap.size w w' := by
  go_enter Try.func7, Try.ntmps7
  go_wp2_with fail
  refine (within_in n (-1099511627776) 1099511627776 hn (by decide) (by decide) (by decide) (by decide) _).mono ?_
  rintro e w' ⟨x, rfl, x0, x1, rfl⟩
  go_wp2_with fail
  refine (within_in b 1 1048576 hb (by decide) (by decide) (by decide) (by decide) _).mono ?_
  rintro e w' ⟨k, rfl, k0, k1, rfl⟩
  have hx : I64 x := ⟨by omega, by omega⟩
  have hk : I64 k := ⟨by omega, by omega⟩
  obtain ⟨p0, p1⟩ := back_prod x k x0 x1 k0 k1
  have c1 := fun w0 => scale_yes x k 1 (x * k) hx hk (by decide) (by decide) (nearS_one _) ⟨by omega, by omega⟩ w0
  have c2 := fun w0 => scale_yes (x * k) 1 k x ⟨by omega, by omega⟩ ⟨by decide, by decide⟩ (by omega) (by omega) (by rw [Int.mul_one]; exact nearS_whole x k (by omega)) hx w0
  have c3 := fun w0 => scale_yes n k k n hn hk (by omega) (by omega) (nearS_whole n k (by omega)) hn w0
  have c4 := fun w0 => scale_bad x k 0 hx hk (by decide) w0
  have c5 := fun y (hy : 0 ≤ y ∧ y ≤ 99) w0 => scale_bad x k (-1 - y) hx hk (by omega) w0
  have c6 := fun w0 => scale_no 4611686018427387904 1048576 (k % 1024 + 1) ⟨by decide, by decide⟩ ⟨by decide, by decide⟩ (by omega) (by omega) (nearS_big _ (by omega) (by omega)) w0
  obtain ⟨e1, e2⟩ := nearS_two x
  obtain ⟨D, hD⟩ : ∃ D, nearS (2 * x + 1) 2 = D := ⟨_, rfl⟩
  rw [hD] at e1 e2
  have c7 := fun w0 => scale_yes (2 * x + 1) 1 2 D ⟨by omega, by omega⟩ ⟨by decide, by decide⟩ (by decide) (by decide) (by rw [Int.mul_one]; exact hD) ⟨by omega, by omega⟩ w0
  clear hD
  have a1 := and1023_i64 k
  have a2 := and1_i64 D
  rw [e1] at a2
  obtain ⟨P, hP⟩ : ∃ P, x * k = P := ⟨_, rfl⟩
  have m1 : IntKind.i64.wrap (x * k) = P := by rw [IntKind.wrap_i64]; omega
  have m1' : wrap64 (x * k) = P := by unfold wrap64; omega
  rw [hP] at c1 c2 p0 p1
  clear hP
  have C1 := Lib.hid c1; have C2 := Lib.hid c2; have C3 := Lib.hid c3; have C4 := Lib.hid c4; have C5 := Lib.hid c5; have C6 := Lib.hid c6; have C7 := Lib.hid c7
  clear c1 c2 c3 c4 c5 c6 c7
  go_wp2_with fail
  refine (C1.out _).mono ?_
  rintro e w1 ⟨rfl, b1⟩
  go_wp2_with fail
  refine (C2.out _).mono ?_
  rintro e w2 ⟨rfl, b2⟩
  go_wp2_with fail
  refine (C3.out _).mono ?_
  rintro e w3 ⟨rfl, b3⟩
  go_wp2_with fail
  refine (C4.out _).mono ?_
  rintro e w4 ⟨rfl, b4⟩
  go_wp2_with fail
  refine (within_in d 0 99 hd (by decide) (by decide) (by decide) (by decide) _).mono ?_
  rintro e w' ⟨y, rfl, y0, y1, rfl⟩
  go_wp2_with fail
  refine (C5.out y ⟨y0, y1⟩ _).mono ?_
  rintro e w5 ⟨rfl, b5⟩
  go_wp2_with fail
  refine (C6.out _).mono ?_
  rintro e w6 ⟨rfl, b6⟩
  go_wp2_with fail
  refine (C7.out _).mono ?_
  rintro e w7 ⟨rfl, b7⟩
  have bel := bstep (bstep (bstep (bstep (bstep (bstep b1 b2) b3) b4) b5) b6) b7
  rcases e2 with rfl | rfl
  all_goals
    go_wp2_with fail
    refine (runs_any _).mono ?_
    rintro e w8 ⟨rfl, b8⟩
    go_wp2
    go_ret
    exact ⟨rfl, bstep bel b8⟩
end Go.Proofs.Ytddlannblopbeaa
