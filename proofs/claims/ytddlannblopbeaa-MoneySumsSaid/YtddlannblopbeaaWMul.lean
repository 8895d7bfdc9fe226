/-
  Contracts of wide.Of and wide.Mul: each returns the two words of the number, or of the product, for every int; nothing that was in memory turns.
-/
import Derived.Test.YtddlannblopbeaaWBits
import Derived.Lib.Hide
import Derived.Test.YtddlannblopbeaaWNum
namespace Go.Proofs.Ytddlannblopbeaa
set_option linter.unusedVariables false
set_option linter.unusedSimpArgs false
open Go.RowKit

set_option maxHeartbeats 400000 in
theorem of_any (n : Int) (h : I64 n) (w : World) :
    Calls Try.prog 23 #[.int .i64 n] w fun e w' => e = .returned (.agg #[.int .i64 (hiW n), .int .u64 (loW n)]) ∧ Below w.heap.size w w' := by
  obtain ⟨n1, n2⟩ := h
  go_enter Try.func23, Try.ntmps23
  go_wp2
  have e1 : n / 9223372036854775808 = hiW n := by unfold hiW; omega
  have e2 : IntKind.u64.wrap n = loW n := by rw [IntKind.wrap_u64]; rfl
  simp only [e1, e2]
  exact bodyPost_ret (v := .agg #[.int .i64 (hiW n), .int .u64 (loW n)]) (by simp [results, Try.results23, go_sem]) rfl ⟨rfl, (Below.refl _ _).alloc (Nat.le_refl _) _⟩

/-- The two words of a product of words, under names. -/
def mHi (x y : Int) : Int := x * y / 18446744073709551616
def mLo (x y : Int) : Int := x * y % 18446744073709551616
theorem mul64_w (x y : Int) (hx : 0 ≤ x) (hx' : x ≤ 18446744073709551615) (hy : 0 ≤ y) (hy' : y ≤ 18446744073709551615) (w : World) :
    Calls Try.prog 30 #[.int .u64 x, .int .u64 y] w fun e w' => e = .returned (.tuple #[.int .u64 (mHi x y), .int .u64 (mLo x y)]) ∧ w = w' := mul64 x y hx hx' hy hy' w
/-- A word that stands for an int. -/
theorem word_of {a : Int} (h : I64 a) : ∃ A, IntKind.u64.wrap a = A ∧ 0 ≤ A ∧ A ≤ 18446744073709551615 ∧ A = if a < 0 then a + 18446744073709551616 else a := by
  refine ⟨_, rfl, ?_⟩
  unfold I64 at h
  rw [IntKind.wrap_u64]
  split <;> omega
theorem mul_forms {a b A B : Int} (eA : A = if a < 0 then a + 18446744073709551616 else a) (eB : B = if b < 0 then b + 18446744073709551616 else b) :
    mLo A B = loW (a * b) ∧ (a < 0 → b < 0 → wrap64 (IntKind.u64.wrap (IntKind.u64.wrap (mHi A B - B) - A)) = hiW (a * b)) ∧ (a < 0 → 0 ≤ b → wrap64 (IntKind.u64.wrap (mHi A B - B)) = hiW (a * b)) ∧ (0 ≤ a → b < 0 → wrap64 (IntKind.u64.wrap (mHi A B - A)) = hiW (a * b)) ∧ (0 ≤ a → 0 ≤ b → wrap64 (mHi A B) = hiW (a * b)) := by
  unfold mHi mLo hiW loW wrap64
  simp only [IntKind.wrap_u64]
  subst eA eB
  have m1 : (a + 18446744073709551616) * (b + 18446744073709551616) = a * b + (a + b + 18446744073709551616) * 18446744073709551616 := by
    rw [Int.add_mul, Int.mul_add]; omega
  have m2 : (a + 18446744073709551616) * b = a * b + b * 18446744073709551616 := by rw [Int.add_mul]; omega
  have m3 : a * (b + 18446744073709551616) = a * b + a * 18446744073709551616 := by rw [Int.mul_add]
  split <;> split
  · rw [m1]; generalize a * b = P; omega
  · rw [m2]; generalize a * b = P; omega
  · rw [m3]; generalize a * b = P; omega
  · generalize a * b = P; omega

set_option maxHeartbeats 400000 in
theorem mul_any (a b : Int) (ha : I64 a) (hb : I64 b) (w : World) :
    Calls Try.prog 21 #[.int .i64 a, .int .i64 b] w fun e w' => e = .returned (.agg #[.int .i64 (hiW (a * b)), .int .u64 (loW (a * b))]) ∧ Below w.heap.size w w' := by
  obtain ⟨A, fA, A0, A1, eA⟩ := word_of ha
  obtain ⟨B, fB, B0, B1, eB⟩ := word_of hb
  obtain ⟨m, m1, m2, m3, m4⟩ := mul_forms eA eB
  have HM := Lib.hid m; have H1 := Lib.hid m1; have H2 := Lib.hid m2; have H3 := Lib.hid m3; have H4 := Lib.hid m4
  clear eA eB m m1 m2 m3 m4 ha hb
  by_cases sa : a < 0 <;> by_cases sb : b < 0
  all_goals
    go_enter Try.func21, Try.ntmps21
    go_wp2_with (go_at_call 30; refine (mul64_w _ _ (by omega) (by omega) (by omega) (by omega) _).mono ?_; rintro e w' ⟨rfl, rfl⟩)
    first
      | simp only [HM.out, H1.out sa sb]
      | simp only [HM.out, H2.out sa sb]
      | simp only [HM.out, H3.out sa sb]
      | simp only [HM.out, H4.out sa sb]
    exact bodyPost_ret (v := .agg #[.int .i64 (hiW (a * b)), .int .u64 (loW (a * b))]) (by simp [results, Try.results21, go_sem]) rfl ⟨rfl, (Below.refl _ _).alloc (Nat.le_refl _) _⟩
end Go.Proofs.Ytddlannblopbeaa
