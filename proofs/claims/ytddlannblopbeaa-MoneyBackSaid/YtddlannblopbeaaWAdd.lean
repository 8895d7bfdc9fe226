/-
  The contract of wide.Add: it returns the two words of the sum, round at 2^128, for every two numbers; nothing that was in memory turns.
-/
import Derived.Test.YtddlannblopbeaaWBits
import Derived.Test.YtddlannblopbeaaWNum
import Derived.Lib.Hide
namespace Go.Proofs.Ytddlannblopbeaa
set_option linter.unusedVariables false
set_option linter.unusedSimpArgs false
open Go.RowKit

/-- Sums and differences of words, under names. -/
def addLo (x y c : Int) : Int := (x + y + c) % 18446744073709551616
def addHi (x y c : Int) : Int := (x + y + c) / 18446744073709551616
theorem addHi_bd {x y c : Int} (hx : 0 ≤ x ∧ x ≤ 18446744073709551615) (hy : 0 ≤ y ∧ y ≤ 18446744073709551615) (hc : 0 ≤ c ∧ c ≤ 1) : 0 ≤ addHi x y c ∧ addHi x y c ≤ 1 := by unfold addHi; omega
theorem add64_f (x y c : Int) (hx : 0 ≤ x) (hy : 0 ≤ y) (hc0 : 0 ≤ c) (hc : c ≤ 1) (w : World) : (callFunc 31 #[.int .u64 x, .int .u64 y, .int .u64 c]).run Try.prog w = .ok (.value (.tuple #[.int .u64 (addLo x y c), .int .u64 (addHi x y c)])) w := add64 x y c hx hy hc0 hc w
theorem u64_word (n : Int) : 0 ≤ IntKind.u64.wrap n ∧ IntKind.u64.wrap n ≤ 18446744073709551615 := by rw [IntKind.wrap_u64]; omega
theorem add_words (x y : Int) : addLo (loW x) (loW y) 0 = loW (x + y) ∧ wrap64 (addLo (IntKind.u64.wrap (hiW x)) (IntKind.u64.wrap (hiW y)) (addHi (loW x) (loW y) 0)) = hiW (x + y) := by
  unfold addLo addHi hiW loW wrap64
  simp only [IntKind.wrap_u64]
  omega
set_option maxHeartbeats 400000 in
theorem add_any (x y : Int) (w : World) :
    Calls Try.prog 22 #[.agg #[.int .i64 (hiW x), .int .u64 (loW x)], .agg #[.int .i64 (hiW y), .int .u64 (loW y)]] w fun e w' => e = .returned (.agg #[.int .i64 (hiW (x + y)), .int .u64 (loW (x + y))]) ∧ Below w.heap.size w w' := by
  obtain ⟨lx, lx'⟩ := loW_bd x; obtain ⟨ly, ly'⟩ := loW_bd y; obtain ⟨hx, hx'⟩ := hiW_bd x; obtain ⟨hy, hy'⟩ := hiW_bd y
  obtain ⟨m1, m2⟩ := add_words x y
  obtain ⟨cc, cc'⟩ := addHi_bd (c := 0) ⟨lx, lx'⟩ ⟨ly, ly'⟩ ⟨by decide, by decide⟩
  obtain ⟨c2, c2'⟩ := addHi_bd (u64_word (hiW x)) (u64_word (hiW y)) ⟨cc, cc'⟩
  have ux := (u64_word (hiW x)).1; have uy := (u64_word (hiW y)).1
  have z0 : (0 : Int) ≤ 0 := by decide
  have z1 : (0 : Int) ≤ 1 := by decide
  have k1 := add64_f (loW x) (loW y) 0 lx ly z0 z1
  have k2 := add64_f _ _ _ ux uy cc cc'
  have HM1 := Lib.hid m1; have HM2 := Lib.hid m2
  clear m1 m2
  go_enter Try.func22, Try.ntmps22
  go_wp2
  simp only [HM1.out, HM2.out]
  exact bodyPost_ret (v := .agg #[.int .i64 (hiW (x + y)), .int .u64 (loW (x + y))]) (by simp [results, Try.results22, go_sem]) rfl ⟨rfl, (((Below.refl _ _).alloc (Nat.le_refl _) _).alloc (by simp) _).alloc (by simp; omega) _⟩
end Go.Proofs.Ytddlannblopbeaa
