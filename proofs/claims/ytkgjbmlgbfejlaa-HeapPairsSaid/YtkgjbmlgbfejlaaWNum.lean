/-
  Numbers of 128 bits as two words: plain arithmetic. No program in this text.
-/
namespace Go.Proofs.Ytkgjbmlgbfejlaa
set_option linter.unusedVariables false
set_option linter.unusedSimpArgs false

/-- The high word of a number, round at 2^128. -/
def hiW (v : Int) : Int := (v / 18446744073709551616 + 9223372036854775808) % 18446744073709551616 - 9223372036854775808
/-- The low word of a number. -/
def loW (v : Int) : Int := v % 18446744073709551616
/-- An int. -/
def I64 (n : Int) : Prop := -9223372036854775808 ≤ n ∧ n ≤ 9223372036854775807
/-- A number of 128 bits. -/
def W128 (v : Int) : Prop := -170141183460469231731687303715884105728 ≤ v ∧ v < 170141183460469231731687303715884105728

theorem hiW_of {v : Int} (h : W128 v) : hiW v = v / 18446744073709551616 := by unfold W128 at h; unfold hiW; omega
theorem hiW_bd (v : Int) : -9223372036854775808 ≤ hiW v ∧ hiW v ≤ 9223372036854775807 := by unfold hiW; omega
theorem loW_bd (v : Int) : 0 ≤ loW v ∧ loW v ≤ 18446744073709551615 := by unfold loW; omega
theorem wide_eq {v : Int} (h : W128 v) : v = hiW v * 18446744073709551616 + loW v := by rw [hiW_of h]; unfold loW; omega
theorem wide_inj {v u : Int} (hv : W128 v) (hu : W128 u) (h1 : hiW v = hiW u) (h2 : loW v = loW u) : v = u := by
  rw [wide_eq hv, wide_eq hu, h1, h2]
theorem prod_bd {a b : Int} (ha : I64 a) (hb : I64 b) : -85070591730234615856620279821087277056 ≤ a * b ∧ a * b ≤ 85070591730234615865843651857942052864 := by
  obtain ⟨a1, a2⟩ := ha; obtain ⟨b1, b2⟩ := hb
  have key : ∀ x y : Int, 0 ≤ x → 0 ≤ y → x ≤ 9223372036854775808 → y ≤ 9223372036854775808 → 0 ≤ x * y ∧ x * y ≤ 85070591730234615865843651857942052864 := by
    intro x y hx hy hx' hy'
    exact ⟨Int.mul_nonneg hx hy, Int.mul_le_mul hx' hy' hy (by omega)⟩
  have key' : ∀ x y : Int, 0 ≤ x → 0 ≤ y → x ≤ 9223372036854775808 → y ≤ 9223372036854775807 → x * y ≤ 85070591730234615856620279821087277056 := by
    intro x y hx hy hx' hy'
    exact Int.mul_le_mul hx' hy' hy (by omega)
  rcases Int.le_total 0 a with pa | pa <;> rcases Int.le_total 0 b with pb | pb
  · have := key a b pa pb (by omega) (by omega); omega
  · have h1 := key a (-b) pa (by omega) (by omega) (by omega)
    have h2 := key' (-b) a (by omega) pa (by omega) (by omega)
    rw [Int.mul_comm (-b), Int.mul_neg] at h2; rw [Int.mul_neg] at h1; omega
  · have h1 := key (-a) b (by omega) pb (by omega) (by omega)
    have h2 := key' (-a) b (by omega) pb (by omega) (by omega)
    rw [Int.neg_mul] at h1 h2; omega
  · have := key (-a) (-b) (by omega) (by omega) (by omega) (by omega)
    rw [Int.neg_mul_neg] at this; omega
theorem prod_W128 {a b : Int} (ha : I64 a) (hb : I64 b) : W128 (a * b) := by have := prod_bd ha hb; unfold W128; omega
theorem I64.W128 {a : Int} (h : I64 a) : W128 a := by unfold I64 at h; unfold Go.Proofs.Ytkgjbmlgbfejlaa.W128; omega

/-- -1, 0, 1. -/
def cmpI (x y : Int) : Int := if x < y then -1 else if x = y then 0 else 1

/-- The nearest whole number to x by d, of two as near the even one (d above 0). -/
def near (x d : Int) : Int := if 2 * (x % d) < d then x / d else if d < 2 * (x % d) then x / d + 1 else if x / d % 2 = 0 then x / d else x / d + 1
end Go.Proofs.Ytkgjbmlgbfejlaa
