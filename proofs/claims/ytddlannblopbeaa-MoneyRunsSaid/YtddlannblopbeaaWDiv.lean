/-
  math/bits.Div64, as this program bears it, where the high word is not 0 and less than the divisor: what its two digits come to. Conditions: the numbers are normalised as the text does it (the equations among the premises).
-/
import Derived.Test.YtddlannblopbeaaWBits
import Derived.Test.YtddlannblopbeaaWDivM
import Derived.Lib.Hide
namespace Go.Proofs.Ytddlannblopbeaa
set_option linter.unusedVariables false
set_option linter.unusedSimpArgs false
open Go.RowKit

/-- What a guess of a digit is, in the walk's forms. -/
theorem guess_forms {U d y1 y0 : Int} (k : DOk U d y1 y0) : ∃ q P : Int, IntKind.u64.wrap (U.tdiv y1) = q ∧ IntKind.u64.wrap (q * y1) = P ∧ 0 ≤ U - P ∧ U - P ≤ 18446744073709551615 ∧ DInv U d y1 y0 q (U - P) := by
  have hyl := k.y1lo; have hyh := k.y1hi; have hzl := k.y0lo; have hzh := k.y0hi; have hul := k.ulo; have hdl := k.dlo; have hdh := k.dhi
  have huh := k.uhi
  obtain ⟨q, hq⟩ : ∃ q, q = U / y1 := ⟨_, rfl⟩
  obtain ⟨P, hP⟩ : ∃ P, P = q * y1 := ⟨_, rfl⟩
  have st := k.start (q := q) (r := U - P) hq (by rw [hP])
  obtain ⟨s1, s2, s3, s4, s5⟩ := id st
  have qn := k.qnn
  have t1 : IntKind.u64.wrap (U.tdiv y1) = q := by
    rw [Int.tdiv_eq_ediv_of_nonneg hul, ← hq, IntKind.wrap_u64]; omega
  have pn : 0 ≤ q * y1 := Int.mul_nonneg (by omega) (by omega)
  have t2 : IntKind.u64.wrap (q * y1) = P := by
    rw [← hP, IntKind.wrap_u64]; omega
  exact ⟨q, P, t1, t2, s4, by omega, st⟩
theorem rem_form {U d y1 y0 Y : Int} (k : DOk U d y1 y0) (HY : Y = y1 * 4294967296 + y0) : IntKind.u64.wrap (IntKind.u64.wrap (IntKind.u64.wrap (U * 4294967296) + d) - IntKind.u64.wrap (DQ U d y1 y0 * Y)) = DR U d y1 y0 := by
  have := k.rem
  rw [HY]; simp only [IntKind.wrap_u64]; exact this
theorem prod_form {U d y1 y0 q r : Int} (k : DOk U d y1 y0) (h : DInv U d y1 y0 q r) (hq : q < 4294967296) : IntKind.u64.wrap (q * y0) = q * y0 := by
  obtain ⟨s1, s2, s3, s4, s5⟩ := h
  have a := k.qnn; have b := k.y0lo; have c := k.y0hi
  have m : q * y0 ≤ 4294967295 * 4294967295 := Int.mul_le_mul (by omega) (by omega) b (by omega)
  have n : 0 ≤ q * y0 := Int.mul_nonneg (by omega) b
  rw [IntKind.wrap_u64]; omega

set_option maxHeartbeats 1000000 in
theorem div64_core (hi lo y : Int) (s : Nat) (Y y1 y0 U L d1 d0 : Int) (h0 : 0 < hi) (h1 : hi < y) (h2 : y ≤ 18446744073709551615) (l0 : 0 ≤ lo) (l1 : lo ≤ 18446744073709551615) (hs : s ≤ 63) (hbl : (64 : Int) - (Lib.bitLen y.toNat : Int) = s)
    (eY : IntKind.u64.wrap (y * 2 ^ s) = Y) (e1 : Y / 4294967296 = y1) (e0 : bits .and .u64 Y 4294967295 = y0)
    (eU : bits .or .u64 (IntKind.u64.wrap (hi * 2 ^ s)) (lo / 2 ^ (64 - s)) = U)
    (eL : IntKind.u64.wrap (lo * 2 ^ s) = L) (ed1 : L / 4294967296 = d1) (ed0 : bits .and .u64 L 4294967295 = d0)
    (HY : Hid (Y = y1 * 4294967296 + y0)) (k1 : DOk U d1 y1 y0) (k2 : DOk (DR U d1 y1 y0) d0 y1 y0) (w : World) :
    Calls Try.prog 36 #[.int .u64 hi, .int .u64 lo, .int .u64 y] w fun e w' => e = .returned (.tuple #[.int .u64 (DQ U d1 y1 y0 * 4294967296 + DQ (DR U d1 y1 y0) d0 y1 y0), .int .u64 (DR (DR U d1 y1 y0) d0 y1 y0 / 2 ^ s)]) ∧ w = w' := by
  have hyl := k1.y1lo; have hyh := k1.y1hi; have hzl := k1.y0lo; have hzh := k1.y0hi; have hul := k1.ulo; have hdl := k1.dlo; have hdh := k1.dhi
  have huh := k1.uhi; have hel := k2.dlo; have heh := k2.dhi
  have r1 := k1.rnn; have r2 := k1.rlt; have r3 := k1.qnn; have r4 := k1.qlt
  have r5 := k2.rnn; have r6 := k2.rlt; have r7 := k2.qnn; have r8 := k2.qlt
  have b1 : decide (y ≤ hi) = false := by simp; omega
  have f1 := rem_form k1 HY.out
  have f2 := rem_form k2 HY.out
  obtain ⟨q, P, t1, t2, t3, t4, st⟩ := guess_forms k1
  obtain ⟨q', P', t1', t2', t3', t4', st'⟩ := guess_forms k2
  have Hst := Lib.hid st; have Hst' := Lib.hid st'
  have K1 := Lib.hid k1; have K2 := Lib.hid k2
  clear st st' k1 k2
  go_enter Try.func36, Try.ntmps36
  go_wp2_with (go_at_call 37; refine (lz64 _ _ (by omega) (by omega)).mono ?_; rintro e w' ⟨rfl, rfl⟩)
  go_loop [15, 16] (fun a b => ∃ q r : Int, a = .int .u64 q ∧ b = .int .u64 r ∧ DInv U d1 y1 y0 q r) (fun a _ => (intOf a).toNat)
  case atStart => exact ⟨q, U - P, rfl, rfl, Hst.out⟩
  case round =>
    obtain ⟨a, b, rfl, rfl, hinv⟩ := hrel
    obtain ⟨s1, s2, s3, s4, s5⟩ := id hinv
    clear s1
    by_cases hnext : (4294967296 ≤ a ∨ 4294967296 * b + d1 < a * y0) ∧ b + y1 < 4294967296
    · obtain ⟨ht, hbr⟩ := hnext
      have Hn := Lib.hid (hinv.next K1.out ht hbr)
      by_cases hbig : 4294967296 ≤ a
      · clear ht
        go_wp2
        go_round
        case rel => exact ⟨a - 1, b + y1, rfl, rfl, Hn.out⟩
        case measure => simp [intOf]; omega
      · have hp : 4294967296 * b + d1 < a * y0 := by omega
        have pf := prod_form K1.out hinv (by omega)
        have ha : 0 < a := by
          rcases Int.lt_or_le 0 a with h | h
          · exact h
          · have z : a = 0 := by omega
            rw [z] at hp; omega
        clear ht
        go_wp2
        go_round
        case rel => exact ⟨a - 1, b + y1, rfl, rfl, Hn.out⟩
        case measure => simp [intOf]; omega
    · have hex : (4294967296 ≤ a ∧ 4294967296 ≤ b + y1 ∧ 0 < a ∧ True ∧ Hid (a - 1 = DQ U d1 y1 y0) ∧ Hid True) ∨ (a < 4294967296 ∧ 4294967296 * b + d1 < a * y0 ∧ 0 < a ∧ 4294967296 ≤ b + y1 ∧ Hid (a - 1 = DQ U d1 y1 y0) ∧ Hid (IntKind.u64.wrap (a * y0) = a * y0)) ∨ (a < 4294967296 ∧ ¬ 4294967296 * b + d1 < a * y0 ∧ 0 ≤ a ∧ True ∧ Hid (a = DQ U d1 y1 y0) ∧ Hid (IntKind.u64.wrap (a * y0) = a * y0)) := by
        by_cases hbig : 4294967296 ≤ a
        · have hbr : 4294967296 ≤ b + y1 := by omega
          exact Or.inl ⟨hbig, hbr, by omega, trivial, Lib.hid (hinv.brk K1.out (Or.inl hbig) hbr), Lib.hid trivial⟩
        · have pf := prod_form K1.out hinv (by omega)
          by_cases hp : 4294967296 * b + d1 < a * y0
          · have hbr : 4294967296 ≤ b + y1 := by omega
            have ha : 0 < a := by
              rcases Int.lt_or_le 0 a with h | h
              · exact h
              · have z : a = 0 := by omega
                rw [z] at hp; omega
            exact Or.inr (Or.inl ⟨by omega, hp, ha, hbr, Lib.hid (hinv.brk K1.out (Or.inr hp) hbr), Lib.hid pf⟩)
          · exact Or.inr (Or.inr ⟨by omega, hp, by omega, trivial, Lib.hid (hinv.stop K1.out hp), Lib.hid pf⟩)
      clear hnext
      rcases hex with ⟨x1, x2, x3, x4, z, z'⟩ | ⟨x1, x2, x3, x4, z, z'⟩ | ⟨x1, x2, x3, x4, z, z'⟩
      all_goals
        (replace z := z.out; first | subst z | skip)
        replace z' := z'.out
        go_wp2
      all_goals
        (first | clear z | skip)
        clear z' x1 x2 x3 x4 hinv s2 s3 s4 s5
        go_loop [18, 16] (fun a b => ∃ q r : Int, a = .int .u64 q ∧ b = .int .u64 r ∧ DInv (DR U d1 y1 y0) d0 y1 y0 q r) (fun a _ => (intOf a).toNat)
        case atStart => exact ⟨q', DR U d1 y1 y0 - P', rfl, rfl, Hst'.out⟩
      all_goals
        obtain ⟨a', b', rfl, rfl, hinv⟩ := hrel
        obtain ⟨s1, s2, s3, s4, s5⟩ := id hinv
        clear s1
        by_cases hnext : (4294967296 ≤ a' ∨ 4294967296 * b' + d0 < a' * y0) ∧ b' + y1 < 4294967296
        · obtain ⟨ht, hbr⟩ := hnext
          have Hn := Lib.hid (hinv.next K2.out ht hbr)
          by_cases hbig : 4294967296 ≤ a'
          · clear ht
            go_wp2
            go_round
            case rel => exact ⟨a' - 1, b' + y1, rfl, rfl, Hn.out⟩
            case measure => simp [intOf]; omega
          · have hp : 4294967296 * b' + d0 < a' * y0 := by omega
            have pf := prod_form K2.out hinv (by omega)
            have ha : 0 < a' := by
              rcases Int.lt_or_le 0 a' with h | h
              · exact h
              · have z : a' = 0 := by omega
                rw [z] at hp; omega
            clear ht
            go_wp2
            go_round
            case rel => exact ⟨a' - 1, b' + y1, rfl, rfl, Hn.out⟩
            case measure => simp [intOf]; omega
        · have hex : (4294967296 ≤ a' ∧ 4294967296 ≤ b' + y1 ∧ 0 < a' ∧ True ∧ Hid (a' - 1 = DQ (DR U d1 y1 y0) d0 y1 y0) ∧ Hid True) ∨ (a' < 4294967296 ∧ 4294967296 * b' + d0 < a' * y0 ∧ 0 < a' ∧ 4294967296 ≤ b' + y1 ∧ Hid (a' - 1 = DQ (DR U d1 y1 y0) d0 y1 y0) ∧ Hid (IntKind.u64.wrap (a' * y0) = a' * y0)) ∨ (a' < 4294967296 ∧ ¬ 4294967296 * b' + d0 < a' * y0 ∧ 0 ≤ a' ∧ True ∧ Hid (a' = DQ (DR U d1 y1 y0) d0 y1 y0) ∧ Hid (IntKind.u64.wrap (a' * y0) = a' * y0)) := by
            by_cases hbig : 4294967296 ≤ a'
            · have hbr : 4294967296 ≤ b' + y1 := by omega
              exact Or.inl ⟨hbig, hbr, by omega, trivial, Lib.hid (hinv.brk K2.out (Or.inl hbig) hbr), Lib.hid trivial⟩
            · have pf := prod_form K2.out hinv (by omega)
              by_cases hp : 4294967296 * b' + d0 < a' * y0
              · have hbr : 4294967296 ≤ b' + y1 := by omega
                have ha : 0 < a' := by
                  rcases Int.lt_or_le 0 a' with h | h
                  · exact h
                  · have z : a' = 0 := by omega
                    rw [z] at hp; omega
                exact Or.inr (Or.inl ⟨by omega, hp, ha, hbr, Lib.hid (hinv.brk K2.out (Or.inr hp) hbr), Lib.hid pf⟩)
              · exact Or.inr (Or.inr ⟨by omega, hp, by omega, trivial, Lib.hid (hinv.stop K2.out hp), Lib.hid pf⟩)
          clear hnext
          rcases hex with ⟨x1, x2, x3, x4, z, z'⟩ | ⟨x1, x2, x3, x4, z, z'⟩ | ⟨x1, x2, x3, x4, z, z'⟩
          all_goals
            (replace z := z.out; first | subst z | skip)
            replace z' := z'.out
            go_wp2
            go_ret2
            exact ⟨rfl, rfl⟩
end Go.Proofs.Ytddlannblopbeaa
