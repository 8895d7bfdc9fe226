/-
  The walk of the statement WideFits: for every two ints the call returns true; nothing that was in memory turns.
-/
import Derived.Test.YtnjegjmcfldpnaaLRuns
import Derived.Test.YtnjegjmcfldpnaaBWithin
namespace Go.Proofs.Ytnjegjmcfldpnaa
set_option linter.unusedVariables false
set_option linter.unusedSimpArgs false
open Go.RowKit

theorem within_in (n lo hi : Int) (hn : I64 n) (l0 : -9223372036854775808 ≤ lo) (hl : lo ≤ hi) (h1 : hi ≤ 9223372036854775807) (hm : hi - lo + 1 ≤ 9223372036854775807) (w : World) :
    Calls Try.prog 22 #[.int .i64 n, .int .i64 lo, .int .i64 hi] w fun e w' => ∃ y : Int, e = .returned (.int .i64 y) ∧ lo ≤ y ∧ y ≤ hi ∧ w = w' := by
  refine (within_any n lo hi hn.1 hn.2 l0 hl h1 hm w).mono fun e w' ⟨he, hw⟩ => ⟨_, he, ?_, ?_, hw⟩
  · have := Int.emod_nonneg n (show hi - lo + 1 ≠ 0 by omega); omega
  · have := Int.emod_lt_of_pos n (show 0 < hi - lo + 1 by omega); omega
/-- Within of the span from -2^62 to 2^62, which has one number more than there are ints from 0 on: its length goes round, and the answer lies in the span all the same. -/
theorem within_fits (n : Int) (hn : I64 n) (w : World) :
    Calls Try.prog 22 #[.int .i64 n, .int .i64 (-4611686018427387904), .int .i64 4611686018427387904] w fun e w' => ∃ y : Int, e = .returned (.int .i64 y) ∧ -4611686018427387904 ≤ y ∧ y ≤ 4611686018427387904 ∧ w = w' := by
  obtain ⟨t1, t2, _, _⟩ := tmod_emod n 9223372036854775807 (by decide)
  obtain ⟨M, hM⟩ : ∃ M, wrap64 (wrap64 9223372036854775808 + 1) = M := ⟨_, rfl⟩
  have eM : M = -9223372036854775807 := by rw [← hM]; unfold wrap64; decide
  have e : n.tmod M = n.tmod 9223372036854775807 := by rw [eM]; exact Int.tmod_neg _ _
  rw [← e] at t1 t2
  obtain ⟨T, hT⟩ : ∃ T, n.tmod M = T := ⟨_, rfl⟩
  rw [hT] at t1 t2
  have mneg : M < 0 := by omega
  clear e eM
  obtain ⟨n1, n2⟩ := hn
  by_cases ht : T < 0
  · have fin : -4611686018427387904 ≤ wrap64 (-4611686018427387904 + wrap64 (T + 4611686018427387904 + 4611686018427387904 + 1)) ∧ wrap64 (-4611686018427387904 + wrap64 (T + 4611686018427387904 + 4611686018427387904 + 1)) ≤ 4611686018427387904 := by unfold wrap64; omega
    have F := Lib.hid fin
    clear fin
    go_enter Try.func22, Try.ntmps22
    go_wp2
    go_ret
    exact ⟨_, rfl, F.out.1, F.out.2, rfl⟩
  · go_enter Try.func22, Try.ntmps22
    go_wp2
    go_ret
    exact ⟨_, rfl, by omega, by omega, rfl⟩
theorem near_whole (x y : Int) (hy : 0 < y) : near (x * y) y = x := by
  unfold near
  rw [Int.mul_emod_left, Int.mul_ediv_cancel _ (by omega), if_pos (by omega)]
theorem nearS_whole (x y : Int) (hy : 0 < y) : nearS (x * y) y = x := by
  unfold nearS
  split
  · rw [← Int.neg_mul, near_whole _ _ hy]; omega
  · exact near_whole x y hy
theorem nearS_one (x : Int) : nearS x 1 = x := by have := nearS_whole x 1 (by decide); rwa [Int.mul_one] at this

set_option maxHeartbeats 1000000 in
theorem fits_any (a b : Int) (ha : I64 a) (hb : I64 b) (w : World) : Calls Try.prog 8 #[.int .i64 a, .int .i64 b] w fun e w' => e = .returned (.bool true) ∧ Below w.heap.size w w' := by
  go_enter Try.func8, Try.ntmps8
  go_wp2_with fail
  refine (within_fits a ha _).mono ?_
  rintro e w' ⟨x, rfl, x0, x1, rfl⟩
  go_wp2_with fail
  refine (within_in b 1 4611686018427387904 hb (by decide) (by decide) (by decide) (by decide) _).mono ?_
  rintro e w' ⟨y, rfl, y0, y1, rfl⟩
  have hx : I64 x := ⟨by omega, by omega⟩
  have hy : I64 y := ⟨by omega, by omega⟩
  have hP := prod_W128 hx hy
  have q1 := fun w0 => quo_yes (x * y) y hP (by omega) (by omega) (by rw [nearS_whole x y (by omega)]; exact hx) w0
  have q2 := fun w0 => quo_yes a 1 ha.W128 (by decide) (by decide) (by rw [nearS_one]; exact ha) w0
  rw [nearS_whole x y (by omega)] at q1
  rw [nearS_one] at q2
  go_wp2_with fail
  refine (mul_any x y hx hy _).mono ?_
  rintro e w1 ⟨rfl, b1⟩
  generalize x * y = P at *
  go_wp2_with fail
  refine (q1 _).mono ?_
  rintro e w2 ⟨rfl, b2⟩
  have k2 := keep1 b2 (new1 w1 (.int .i64 (hiW P)) (.int .u64 (loW P)) 24)
  obtain ⟨k21, k22, k23⟩ := id k2
  go_wp2_with fail
  refine (of_any a ha _).mono ?_
  rintro e w3 ⟨rfl, b3⟩
  go_wp2_with fail
  refine (q2 _).mono ?_
  rintro e w4 ⟨rfl, b4⟩
  have k4 := keep1 b4 (keep1 b3 k2)
  obtain ⟨k41, k42, k43⟩ := id k4
  clear k21 k22 k23
  have bel : Below w.heap.size w w4 := by
    have s1 := b1.size; have s2 := b2.size; have s3 := b3.size
    simp at s2
    exact (((b1.alloc (by omega) _).trans (b2.mono (by simp; omega))).trans (b3.mono (by omega))).trans (b4.mono (by omega))
  clear k2 q1 q2
  go_wp2_with fail
  by_cases hI : I64 P
  · have q3 := fun w0 => quo_yes P 1 hP (by decide) (by decide) (by rw [nearS_one]; exact hI) w0
    rw [nearS_one] at q3
    refine (int_yes P hI _).mono ?_
    rintro e w5 ⟨rfl, b5⟩
    obtain ⟨k51, k52, k53⟩ := keep1 b5 k4
    go_wp2_with fail
    refine (q3 _).mono ?_
    rintro e w6 ⟨rfl, b6⟩
    go_wp2_with fail
    refine (runs_any _).mono ?_
    rintro e w7 ⟨rfl, b7⟩
    go_wp2
    go_ret
    have := bel.size; have := b5.size; have := b6.size
    exact ⟨rfl, ((bel.trans (b5.mono (by omega))).trans (b6.mono (by omega))).trans (b7.mono (by omega))⟩
  · have q3 := fun w0 => quo_no P 1 hP (by decide) (by decide) (by rw [nearS_one]; exact hI) w0
    refine (int_no P hP hI _).mono ?_
    rintro e w5 ⟨rfl, b5⟩
    obtain ⟨k51, k52, k53⟩ := keep1 b5 k4
    go_wp2_with fail
    refine (q3 _).mono ?_
    rintro e w6 ⟨rfl, b6⟩
    go_wp2_with fail
    refine (runs_any _).mono ?_
    rintro e w7 ⟨rfl, b7⟩
    go_wp2
    go_ret
    have := bel.size; have := b5.size; have := b6.size
    exact ⟨rfl, ((bel.trans (b5.mono (by omega))).trans (b6.mono (by omega))).trans (b7.mono (by omega))⟩
end Go.Proofs.Ytnjegjmcfldpnaa
