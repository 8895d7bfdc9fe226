/-
  The contract of the book's Within: it brings a number into the span from lo to hi; the world is as it was.
-/
import Derived.Test.YtjjkddahfmkhoaaProg
import Derived.WalkKit
import Derived.WalkSpells
import Derived.WalkLawsBesides
import Derived.Lib.Hide
import Derived.Deep.QuietTactic
import Derived.BigQuiet
namespace Go.Proofs.Ytjjkddahfmkhoaa
set_option linter.unusedVariables false
set_option linter.unusedSimpArgs false
open Go.RowKit

theorem tmod_emod (n m : Int) (hm : 0 < m) : -m < n.tmod m ∧ n.tmod m < m ∧ (n.tmod m < 0 → n % m = n.tmod m + m) ∧ (0 ≤ n.tmod m → n % m = n.tmod m) := by
  have h1 := Int.emod_nonneg n (show m ≠ 0 by omega)
  have h2 := Int.emod_lt_of_pos n hm
  rcases Int.le_total 0 n with p | p
  · rw [Int.tmod_eq_emod_of_nonneg p]; omega
  · have e : n.tmod m = -((-n) % m) := by
      have : n = -(-n) := by omega
      rw [this, Int.neg_tmod, Int.neg_neg, Int.tmod_eq_emod_of_nonneg (by omega)]
    have g1 := Int.emod_nonneg (-n) (show m ≠ 0 by omega)
    have g2 := Int.emod_lt_of_pos (-n) hm
    have a1 : m * (n / m) + n % m = n := Int.mul_ediv_add_emod n m
    have a2 : m * ((-n) / m) + (-n) % m = -n := Int.mul_ediv_add_emod (-n) m
    have a3 : m * (n / m + (-n) / m) = -(n % m + (-n) % m) := by rw [Int.mul_add]; omega
    rw [e]
    refine ⟨by omega, by omega, fun h => ?_, fun h => ?_⟩
    · have hk : n / m + (-n) / m = -1 := by
        have l1 : n / m + (-n) / m < 0 := by
          rcases Int.lt_or_le (n / m + (-n) / m) 0 with c | c
          · exact c
          · have := Int.mul_nonneg (Int.le_of_lt hm) c; omega
        have l2 : -2 < n / m + (-n) / m := by
          rcases Int.lt_or_le (-2) (n / m + (-n) / m) with c | c
          · exact c
          · have := Int.mul_le_mul_of_nonneg_left c (Int.le_of_lt hm); omega
        omega
      rw [hk] at a3; omega
    · have z : (-n) % m = 0 := by omega
      have hd : m ∣ n := by
        have := Int.dvd_of_emod_eq_zero z
        exact (Int.dvd_neg).1 this
      rw [Int.emod_eq_zero_of_dvd hd]; omega
set_option maxHeartbeats 400000 in
theorem bwithin_any (n lo hi : Int) (n0 : -9223372036854775808 ≤ n) (n1 : n ≤ 9223372036854775807) (l0 : -9223372036854775808 ≤ lo) (hl : lo ≤ hi) (h1 : hi ≤ 9223372036854775807) (hm : hi - lo + 1 ≤ 9223372036854775807) (w : World) :
    Calls Try.prog 16 #[.int .i64 n, .int .i64 lo, .int .i64 hi] w fun e w' => e = .returned (.int .i64 (lo + n % (hi - lo + 1))) ∧ w = w' := by
  obtain ⟨t1, t2, t3, t4⟩ := tmod_emod n (hi - lo + 1) (by omega)
  obtain ⟨T, hT⟩ : ∃ T, n.tmod (hi - lo + 1) = T := ⟨_, rfl⟩
  rw [hT] at t1 t2 t3 t4
  by_cases ht : T < 0
  · have H := Lib.hid (t3 ht)
    clear t3 t4
    go_enter Try.func16, Try.ntmps16
    go_wp2
    rw [H.out]
    go_ret
    exact ⟨congrArg (fun n : Int => Ending.returned (Value.int IntKind.i64 n)) (by omega), rfl⟩
  · have H := Lib.hid (t4 (by omega))
    clear t3 t4
    go_enter Try.func16, Try.ntmps16
    go_wp2
    rw [H.out]
    go_ret
    exact ⟨rfl, rfl⟩
end Go.Proofs.Ytjjkddahfmkhoaa
