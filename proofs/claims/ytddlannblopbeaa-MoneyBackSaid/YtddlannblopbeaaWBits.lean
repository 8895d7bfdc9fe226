/-
  Contracts of math/bits' Mul64, Add64, Sub64, Len64 and LeadingZeros64, as this program bears them: each returns what Go's documentation says, for every argument; the world is as it was. (Carries and borrows that come in are 0 or 1.)
-/
import Derived.Test.YtddlannblopbeaaProg
import Derived.WalkKit
import Derived.WalkSpells
import Derived.WalkLawsBesides
import Derived.Test.YtddlannblopbeaaWLen
import Derived.Lib.Hide
import Derived.KernelRfl
namespace Go.Proofs.Ytddlannblopbeaa
set_option linter.unusedVariables false
set_option linter.unusedSimpArgs false
open Go.RowKit

/-- A struct of two fields that lies in a block of its own stays as it is through a call that writes nothing old. -/
theorem keep1 {n : Nat} {v0 v1 : Value} {W w' : World} (hb : Below W.heap.size W w') (h : n < W.heap.size ∧ W.cell? ⟨n, 0, none⟩ = some v0 ∧ W.cell? ⟨n, 1, none⟩ = some v1) : n < w'.heap.size ∧ w'.cell? ⟨n, 0, none⟩ = some v0 ∧ w'.cell? ⟨n, 1, none⟩ = some v1 := by
  obtain ⟨h1, h2, h3⟩ := h
  have := hb.size
  exact ⟨by omega, by rw [hb.cell (p := ⟨n, 0, none⟩) h1, h2], by rw [hb.cell (p := ⟨n, 1, none⟩) h1, h3]⟩
theorem new1 (w : World) (v0 v1 : Value) (t : TypeId) : w.heap.size < (w.alloc (.cells #[v0, v1] t)).heap.size ∧ (w.alloc (.cells #[v0, v1] t)).cell? ⟨w.heap.size, 0, none⟩ = some v0 ∧ (w.alloc (.cells #[v0, v1] t)).cell? ⟨w.heap.size, 1, none⟩ = some v1 := by
  refine ⟨by simp, by simp [go_sem], by simp [go_sem]⟩

/-- The low half of a word. -/
theorem and32 (a : Int) (h : 0 ≤ a) (h' : a ≤ 18446744073709551615) : bits .and .u64 a 4294967295 = a % 4294967296 := by
  obtain ⟨n, rfl⟩ := Int.eq_ofNat_of_zero_le h
  have e := bits_and_u64_nat n 4294967295 (by omega) (by omega)
  rw [Nat.and_two_pow_sub_one_eq_mod n 32] at e
  have f : bits .and .u64 (n : Int) 4294967295 = ((n % 2 ^ 32 : Nat) : Int) := e
  rw [f]; omega
theorem u64_id (a : Int) (h : 0 ≤ a) (h' : a ≤ 18446744073709551615) : IntKind.u64.wrap a = a := by rw [IntKind.wrap_u64]; omega
theorem half_prod (a b : Int) (ha : 0 ≤ a) (ha' : a ≤ 4294967295) (hb : 0 ≤ b) (hb' : b ≤ 4294967295) : 0 ≤ a * b ∧ a * b ≤ 18446744065119617025 :=
  ⟨Int.mul_nonneg ha hb, Int.mul_le_mul ha' hb' hb (by omega)⟩

set_option maxHeartbeats 1000000 in
theorem mul64 (x y : Int) (hx : 0 ≤ x) (hx' : x ≤ 18446744073709551615) (hy : 0 ≤ y) (hy' : y ≤ 18446744073709551615) (w : World) :
    Calls Try.prog 30 #[.int .u64 x, .int .u64 y] w fun e w' => e = .returned (.tuple #[.int .u64 (x * y / 18446744073709551616), .int .u64 (x * y % 18446744073709551616)]) ∧ w = w' := by
  -- the halves and the four products under names of their own: rules for the walk
  obtain ⟨x0, ex0⟩ : ∃ x0, x0 = x % 4294967296 := ⟨_, rfl⟩
  obtain ⟨x1, ex1⟩ : ∃ x1, x1 = x / 4294967296 := ⟨_, rfl⟩
  obtain ⟨y0, ey0⟩ : ∃ y0, y0 = y % 4294967296 := ⟨_, rfl⟩
  obtain ⟨y1, ey1⟩ : ∃ y1, y1 = y / 4294967296 := ⟨_, rfl⟩
  obtain ⟨a1, a2⟩ := half_prod x0 y0 (by omega) (by omega) (by omega) (by omega)
  obtain ⟨b1, b2⟩ := half_prod x1 y0 (by omega) (by omega) (by omega) (by omega)
  obtain ⟨c1, c2⟩ := half_prod x0 y1 (by omega) (by omega) (by omega) (by omega)
  obtain ⟨d1, d2⟩ := half_prod x1 y1 (by omega) (by omega) (by omega) (by omega)
  obtain ⟨p, ep⟩ : ∃ p, p = x0 * y0 := ⟨_, rfl⟩
  obtain ⟨q, eq⟩ : ∃ q, q = x1 * y0 := ⟨_, rfl⟩
  obtain ⟨r, er⟩ : ∃ r, r = x0 * y1 := ⟨_, rfl⟩
  obtain ⟨s, es⟩ : ∃ s, s = x1 * y1 := ⟨_, rfl⟩
  have fp : IntKind.u64.wrap (x0 * y0) = p := by rw [ep]; exact u64_id _ a1 (by omega)
  have fq : IntKind.u64.wrap (x1 * y0) = q := by rw [eq]; exact u64_id _ b1 (by omega)
  have fr : IntKind.u64.wrap (x0 * y1) = r := by rw [er]; exact u64_id _ c1 (by omega)
  have fs : IntKind.u64.wrap (x1 * y1) = s := by rw [es]; exact u64_id _ d1 (by omega)
  have g0 : bits .and .u64 x 4294967295 = x0 := by rw [ex0]; exact and32 x hx hx'
  have g1 : bits .and .u64 y 4294967295 = y0 := by rw [ey0]; exact and32 y hy hy'
  rw [← ep] at a1 a2; rw [← eq] at b1 b2; rw [← er] at c1 c2; rw [← es] at d1 d2
  have g2 : bits .and .u64 (q + p / 4294967296) 4294967295 = (q + p / 4294967296) % 4294967296 := and32 _ (by omega) (by omega)
  have whole : x * y = s * 18446744073709551616 + (q + r) * 4294967296 + p := by
    have hxx : x = x1 * 4294967296 + x0 := by omega
    have hyy : y = y1 * 4294967296 + y0 := by omega
    rw [hxx, hyy, ep, eq, er, es, Int.add_mul, Int.mul_add, Int.mul_add, Int.mul_right_comm x1 4294967296 y0, ← Int.mul_assoc x0 y1, ← Int.mul_assoc (x1 * 4294967296) y1, Int.mul_right_comm x1 4294967296 y1]
    generalize x1 * y1 = A; generalize x1 * y0 = B; generalize x0 * y1 = C; generalize x0 * y0 = D
    omega
  have hhi : x * y / 18446744073709551616 = s + (q + p / 4294967296) / 4294967296 + ((q + p / 4294967296) % 4294967296 + r) / 4294967296 := by rw [whole]; omega
  have hlo : IntKind.u64.wrap (x * y) = x * y % 18446744073709551616 := IntKind.wrap_u64 _
  have HH := Lib.hid hhi; have HL := Lib.hid hlo
  have k0 : x / 4294967296 = x1 := ex1.symm
  have k1 : y / 4294967296 = y1 := ey1.symm
  clear hhi hlo whole ep eq er es ex0 ex1 ey0 ey1
  go_enter Try.func30, Try.ntmps30
  go_wp2
  simp only [HL.out]
  rw [HH.out]
  go_ret2
  exact ⟨rfl, rfl⟩

theorem add64 (x y c : Int) (hx : 0 ≤ x) (hy : 0 ≤ y) (hc0 : 0 ≤ c) (hc : c ≤ 1) (w : World) : (callFunc 31 #[.int .u64 x, .int .u64 y, .int .u64 c]).run Try.prog w = .ok (.value (.tuple #[.int .u64 ((x + y + c) % 18446744073709551616), .int .u64 ((x + y + c) / 18446744073709551616)])) w := by
  rw [run_callFunc_extern Try.func31 (by kernel_rfl) (by kernel_rfl) (by kernel_rfl) (e := add64Entry) (by kernel_rfl), run_add64 x y c hx hy hc0 hc]
  rfl
theorem add64_0 (x y : Int) (hx : 0 ≤ x) (hy : 0 ≤ y) (w : World) : (callFunc 31 #[.int .u64 x, .int .u64 y, .int .u64 0]).run Try.prog w = .ok (.value (.tuple #[.int .u64 ((x + y) % 18446744073709551616), .int .u64 ((x + y) / 18446744073709551616)])) w := by
  simpa using add64 x y 0 hx hy (Int.le_refl 0) (by decide) w

/-- The borrow, under a name. -/
def bor (x y : Int) : Int := if x < y then 1 else 0

theorem sub64 (x y b : Int) (hx : 0 ≤ x) (hy : 0 ≤ y) (hy' : y < 18446744073709551616) (hb0 : 0 ≤ b) (hb : b ≤ 1) (w : World) : (callFunc 35 #[.int .u64 x, .int .u64 y, .int .u64 b]).run Try.prog w =
    .ok (.value (.tuple #[.int .u64 ((x - y - b) % 18446744073709551616), .int .u64 (bor x (y + b))])) w := by
  obtain ⟨X, rfl⟩ := Int.eq_ofNat_of_zero_le hx
  obtain ⟨Y, rfl⟩ := Int.eq_ofNat_of_zero_le hy
  have run : ∀ B : Nat, B ≤ 1 → ((Extern.MathBitsCarry.rows.getD 1 (default, fun _ => stuck default)).2 #[.int .u64 (X : Int), .int .u64 (Y : Int), .int .u64 (B : Int)]).run Try.prog w = .ok (.tuple #[.int .u64 (((X + 18446744073709551616 - Y - B) % 18446744073709551616 : Nat) : Int), .int .u64 (((if X < Y + B then 1 else 0) : Nat) : Int)]) w := by
    intro B hB
    obtain rfl | rfl : B = 0 ∨ B = 1 := by omega
    all_goals rfl
  obtain ⟨B, rfl⟩ := Int.eq_ofNat_of_zero_le hb0
  rw [run_callFunc_extern Try.func35 (by kernel_rfl) (by kernel_rfl) (by kernel_rfl) (e := (Extern.MathBitsCarry.rows.getD 1 (default, fun _ => stuck default)).2) (by kernel_rfl), run B (by omega)]
  have f1 : (((X + 18446744073709551616 - Y - B) % 18446744073709551616 : Nat) : Int) = ((X : Int) - Y - B) % 18446744073709551616 := by omega
  have f2 : (((if X < Y + B then 1 else 0) : Nat) : Int) = bor X (Y + B) := by unfold bor; split <;> split <;> omega
  rw [f1, f2]
  rfl
theorem lz64 (x : Int) (w : World) (h0 : 0 ≤ x) (h1 : x ≤ 18446744073709551615) :
    Calls Try.prog 37 #[.int .u64 x] w fun e w' => e = .returned (.int .i64 (64 - Lib.bitLen x.toNat)) ∧ w = w' := by
  have hb : Lib.bitLen x.toNat ≤ 64 := Lib.bitLen_le x.toNat 64 (Nat.le_refl _) (by omega)
  go_enter Try.func37, Try.ntmps37
  go_wp2_with (go_at_call 38; refine (len64 x _ h0 h1).mono ?_; rintro e w' ⟨rfl, rfl⟩)
  go_ret
  exact ⟨rfl, rfl⟩

end Go.Proofs.Ytddlannblopbeaa
