/-
  The contract of wide.Quo: it returns the nearest whole number to the number by the divisor, of two as near the even one, and true; 0 and false, if the divisor isn't above 0, or that is no int; nothing that was in memory turns.
-/
import Derived.Test.YtddlannblopbeaaWDivW
import Derived.Test.YtddlannblopbeaaWNum
namespace Go.Proofs.Ytddlannblopbeaa
set_option linter.unusedVariables false
set_option linter.unusedSimpArgs false
open Go.RowKit

def subLo (x y c : Int) : Int := (x - y - c) % 18446744073709551616
def subHi (x y c : Int) : Int := bor x (y + c)
theorem sub64_f (x y b : Int) (hx : 0 ≤ x) (hy : 0 ≤ y) (hy' : y ≤ 18446744073709551615) (hb0 : 0 ≤ b) (hb : b ≤ 1) (w : World) : (callFunc 35 #[.int .u64 x, .int .u64 y, .int .u64 b]).run Try.prog w = .ok (.value (.tuple #[.int .u64 (subLo x y b), .int .u64 (subHi x y b)])) w := sub64 x y b hx hy (by omega) hb0 hb w

theorem u64_word' (n : Int) : 0 ≤ IntKind.u64.wrap n ∧ IntKind.u64.wrap n ≤ 18446744073709551615 := by rw [IntKind.wrap_u64]; omega
/-- How far a number is from 0. -/
def absI (x : Int) : Int := if x < 0 then -x else x
def magHi (x : Int) : Int := absI x / 18446744073709551616
def magLo (x : Int) : Int := absI x % 18446744073709551616
theorem mag_pos {x : Int} (hx : W128 x) (h : 0 ≤ hiW x) : hiW x = magHi x ∧ loW x = magLo x := by
  rw [hiW_of hx] at h ⊢
  unfold W128 at hx; unfold magHi magLo absI loW
  rw [if_neg (by omega)]; omega
theorem mag_neg {x : Int} (hx : W128 x) (h : hiW x < 0) : subLo 0 (loW x) 0 = magLo x ∧ subLo 0 (IntKind.u64.wrap (hiW x)) (subHi 0 (loW x) 0) = magHi x ∧ 0 ≤ subHi 0 (loW x) 0 ∧ subHi 0 (loW x) 0 ≤ 1 := by
  rw [hiW_of hx] at h ⊢
  unfold W128 at hx; unfold subLo subHi magHi magLo absI loW bor
  rw [IntKind.wrap_u64, if_pos (by omega)]
  split <;> omega

set_option maxHeartbeats 400000 in
theorem mag_any (x : Int) (hx : W128 x) (w : World) :
    Calls Try.prog 27 #[.agg #[.int .i64 (hiW x), .int .u64 (loW x)]] w fun e w' => e = .returned (.tuple #[.int .u64 (magHi x), .int .u64 (magLo x)]) ∧ Below w.heap.size w w' := by
  by_cases hs : 0 ≤ hiW x
  · obtain ⟨e1, e2⟩ := mag_pos hx hs
    obtain ⟨b1, b2⟩ := hiW_bd x
    have H1 := Lib.hid e1; have H2 := Lib.hid e2
    clear e1 e2
    go_enter Try.func27, Try.ntmps27
    go_wp2
    go_quiet (fail)
    go_wp2
    go_ret2
    exact ⟨by rw [H1.out, H2.out]; rfl, below_drewN ((Below.refl _ _).alloc (Nat.le_refl _) _) _⟩
  · obtain ⟨e1, e2, e3, e4⟩ := mag_neg hx (by omega)
    obtain ⟨b1, b2⟩ := loW_bd x
    obtain ⟨b3, b4⟩ := u64_word' (hiW x)
    have k1 := sub64_f 0 (loW x) 0 (by decide) b1 b2 (by decide) (by decide)
    have k2 := sub64_f 0 (IntKind.u64.wrap (hiW x)) _ (by decide) b3 b4 e3 e4
    go_enter Try.func27, Try.ntmps27
    go_wp2
    go_ret2
    exact ⟨rfl, (Below.refl _ _).alloc (Nat.le_refl _) _⟩

/-- Quotient and remainder of two words, under names. -/
def qW (hi lo d : Int) : Int := (hi * 18446744073709551616 + lo) / d
def rW (hi lo d : Int) : Int := (hi * 18446744073709551616 + lo) % d
theorem div64_f (hi lo y : Int) (h0 : 0 ≤ hi) (h1 : hi < y) (h2 : y ≤ 18446744073709551615) (l0 : 0 ≤ lo) (l1 : lo ≤ 18446744073709551615) (w : World) :
    Calls Try.prog 36 #[.int .u64 hi, .int .u64 lo, .int .u64 y] w fun e w' => e = .returned (.tuple #[.int .u64 (qW hi lo y), .int .u64 (rW hi lo y)]) ∧ ∃ n, w' = w.drewN n := div64 hi lo y h0 h1 h2 l0 l1 w
theorem qr_bd {hi lo d : Int} (h0 : 0 ≤ hi) (h1 : hi < d) (l0 : 0 ≤ lo) (l1 : lo ≤ 18446744073709551615) : 0 ≤ qW hi lo d ∧ qW hi lo d ≤ 18446744073709551615 ∧ 0 ≤ rW hi lo d ∧ rW hi lo d < d := by
  have hd : 0 < d := by omega
  refine ⟨Int.ediv_nonneg (by omega) (by omega), ?_, Int.emod_nonneg _ (by omega), Int.emod_lt_of_pos _ hd⟩
  have : qW hi lo d < 18446744073709551616 := Int.ediv_lt_of_lt_mul hd (by omega)
  omega

set_option maxHeartbeats 400000 in
theorem qn_no (hi lo d : Int) (h0 : 0 ≤ hi) (d0 : 0 < d) (d1 : d ≤ 9223372036854775807) (l0 : 0 ≤ lo) (l1 : lo ≤ 18446744073709551615) (h : d ≤ hi ∨ 9223372036854775808 < qW hi lo d) (w : World) :
    Calls Try.prog 28 #[.int .u64 hi, .int .u64 lo, .int .u64 d] w fun e w' => e = .returned (.tuple #[.int .u64 0, .bool false]) ∧ Below w.heap.size w w' := by
  by_cases hd : d ≤ hi
  · clear h
    go_enter Try.func28, Try.ntmps28
    go_wp2
    go_ret2
    exact ⟨rfl, Below.refl _ _⟩
  · have hq : 9223372036854775808 < qW hi lo d := by omega
    obtain ⟨b1, b2, b3, b4⟩ := qr_bd (d := d) h0 (by omega) l0 l1
    clear h
    go_enter Try.func28, Try.ntmps28
    go_wp2_with (go_at_call 36; refine (div64_f _ _ _ (by omega) (by omega) (by omega) (by omega) (by omega) _).mono ?_; rintro e w' ⟨rfl, n, rfl⟩)
    go_ret2
    exact ⟨rfl, below_drewN (Below.refl _ _) _⟩

theorem near_forms (hi lo d : Int) : (2 * rW hi lo d < d → near (hi * 18446744073709551616 + lo) d = qW hi lo d) ∧ (d < 2 * rW hi lo d → near (hi * 18446744073709551616 + lo) d = qW hi lo d + 1) ∧ (2 * rW hi lo d = d → qW hi lo d % 2 = 1 → near (hi * 18446744073709551616 + lo) d = qW hi lo d + 1) ∧ (2 * rW hi lo d = d → ¬ qW hi lo d % 2 = 1 → near (hi * 18446744073709551616 + lo) d = qW hi lo d) := by
  unfold near qW rW
  refine ⟨fun h => by rw [if_pos h], fun h => by rw [if_neg (by omega), if_pos h], fun h g => by rw [if_neg (by omega), if_neg (by omega), if_neg (by omega)], fun h g => by rw [if_neg (by omega), if_neg (by omega), if_pos (by omega)]⟩

set_option maxHeartbeats 400000 in
theorem qn_yes (hi lo d : Int) (h0 : 0 ≤ hi) (d0 : 0 < d) (d1 : d ≤ 9223372036854775807) (l0 : 0 ≤ lo) (l1 : lo ≤ 18446744073709551615) (h1 : hi < d) (h2 : qW hi lo d ≤ 9223372036854775808) (w : World) :
    Calls Try.prog 28 #[.int .u64 hi, .int .u64 lo, .int .u64 d] w fun e w' => e = .returned (.tuple #[.int .u64 (near (hi * 18446744073709551616 + lo) d), .bool true]) ∧ Below w.heap.size w w' := by
  obtain ⟨b1, b2, b3, b4⟩ := qr_bd (d := d) h0 (by omega) l0 l1
  obtain ⟨f1, f2, f3, f4⟩ := near_forms hi lo d
  have key : (2 * rW hi lo d < d ∧ Hid True ∧ Hid (near (hi * 18446744073709551616 + lo) d = qW hi lo d)) ∨ (d < 2 * rW hi lo d ∧ Hid True ∧ Hid (near (hi * 18446744073709551616 + lo) d = qW hi lo d + 1)) ∨ ((2 * rW hi lo d = d) ∧ Hid ((qW hi lo d % 2 == 1) = true) ∧ Hid (near (hi * 18446744073709551616 + lo) d = qW hi lo d + 1)) ∨ ((2 * rW hi lo d = d) ∧ Hid ((qW hi lo d % 2 == 1) = false) ∧ Hid (near (hi * 18446744073709551616 + lo) d = qW hi lo d)) := by
    rcases Int.lt_trichotomy (2 * rW hi lo d) d with h | h | h
    · exact Or.inl ⟨h, Lib.hid trivial, Lib.hid (f1 h)⟩
    · by_cases g : qW hi lo d % 2 = 1
      · exact Or.inr (Or.inr (Or.inl ⟨h, Lib.hid (by simpa using g), Lib.hid (f3 h g)⟩))
      · exact Or.inr (Or.inr (Or.inr ⟨h, Lib.hid (by simpa using g), Lib.hid (f4 h g)⟩))
    · exact Or.inr (Or.inl ⟨h, Lib.hid trivial, Lib.hid (f2 h)⟩)
  clear f1 f2 f3 f4
  generalize near (hi * 18446744073709551616 + lo) d = N at *
  rcases key with ⟨t, g, H⟩ | ⟨t, g, H⟩ | ⟨t, g, H⟩ | ⟨t, g, H⟩
  all_goals
    replace g := g.out
  all_goals
    go_enter Try.func28, Try.ntmps28
    go_wp2_with (go_at_call 36; refine (div64_f _ _ _ (by omega) (by omega) (by omega) (by omega) (by omega) _).mono ?_; rintro e w' ⟨rfl, n, rfl⟩)
    rw [H.out]
    go_ret2
    exact ⟨rfl, below_drewN (Below.refl _ _) _⟩

set_option maxHeartbeats 400000 in
theorem signed_pos (q : Int) (h0 : 0 ≤ q) (h1 : q ≤ 9223372036854775807) (w : World) :
    Calls Try.prog 29 #[.int .u64 q, .bool false] w fun e w' => e = .returned (.tuple #[.int .i64 q, .bool true]) ∧ w = w' := by
  go_enter Try.func29, Try.ntmps29
  go_wp2
  go_ret2
  exact ⟨rfl, rfl⟩
set_option maxHeartbeats 400000 in
theorem signed_neg (q : Int) (h0 : 0 ≤ q) (h1 : q ≤ 9223372036854775808) (w : World) :
    Calls Try.prog 29 #[.int .u64 q, .bool true] w fun e w' => e = .returned (.tuple #[.int .i64 (-q), .bool true]) ∧ w = w' := by
  have e1 : wrap64 (IntKind.u64.wrap (-q)) = -q := by unfold wrap64; rw [IntKind.wrap_u64]; omega
  have H1 := Lib.hid e1
  clear e1
  go_enter Try.func29, Try.ntmps29
  go_wp2
  simp only [H1.out]
  go_ret2
  exact ⟨rfl, rfl⟩
set_option maxHeartbeats 400000 in
theorem signed_no (q : Int) (b : Bool) (h0 : 0 ≤ q) (h1 : if b then 9223372036854775808 < q else 9223372036854775808 ≤ q) (w : World) :
    Calls Try.prog 29 #[.int .u64 q, .bool b] w fun e w' => e = .returned (.tuple #[.int .i64 0, .bool false]) ∧ w = w' := by
  cases b
  · have h2 : 9223372036854775808 ≤ q := by simpa using h1
    clear h1
    go_enter Try.func29, Try.ntmps29
    go_wp2
    go_ret2
    exact ⟨rfl, rfl⟩
  · have h2 : 9223372036854775808 < q := by simpa using h1
    clear h1
    go_enter Try.func29, Try.ntmps29
    go_wp2
    go_ret2
    exact ⟨rfl, rfl⟩

/-- What Quo answers: the nearest whole number, of either sign. -/
def nearS (x d : Int) : Int := if x < 0 then -near (-x) d else near x d

theorem mag_bd {x : Int} (hx : W128 x) : 0 ≤ magHi x ∧ magHi x ≤ 9223372036854775808 ∧ 0 ≤ magLo x ∧ magLo x ≤ 18446744073709551615 ∧ magHi x * 18446744073709551616 + magLo x = absI x := by
  unfold W128 at hx; unfold magHi magLo absI; split <;> omega
theorem neg_hi {x : Int} (hx : W128 x) : (hiW x < 0 ↔ x < 0) := by rw [hiW_of hx]; omega
/-- The rounded quotient lies at the quotient or one above it. -/
theorem near_bd (x d : Int) : x / d ≤ near x d ∧ near x d ≤ x / d + 1 := by unfold near; split <;> (try split) <;> (try split) <;> omega

theorem quo_bad (x d : Int) (hd : d ≤ 0) (w : World) :
    Calls Try.prog 20 #[.agg #[.int .i64 (hiW x), .int .u64 (loW x)], .int .i64 d] w fun e w' => e = .returned (.tuple #[.int .i64 0, .bool false]) ∧ Below w.heap.size w w' := by
  go_enter Try.func20, Try.ntmps20
  go_wp2
  go_ret2
  exact ⟨rfl, (Below.refl _ _).alloc (Nat.le_refl _) _⟩

set_option maxHeartbeats 400000 in
theorem quo_yes (x d : Int) (hx : W128 x) (d0 : 0 < d) (d1 : d ≤ 9223372036854775807) (h : I64 (nearS x d)) (w : World) :
    Calls Try.prog 20 #[.agg #[.int .i64 (hiW x), .int .u64 (loW x)], .int .i64 d] w fun e w' => e = .returned (.tuple #[.int .i64 (nearS x d), .bool true]) ∧ Below w.heap.size w w' := by
  obtain ⟨a1, a2, a3, a4, a5⟩ := mag_bd hx
  obtain ⟨n1, n2⟩ := near_bd (absI x) d
  have key : near (absI x) d ≤ 9223372036854775808 ∧ (0 ≤ x → near (absI x) d ≤ 9223372036854775807 ∧ nearS x d = near (absI x) d) ∧ (x < 0 → nearS x d = -near (absI x) d) := by
    obtain ⟨i1, i2⟩ := h
    by_cases g : x < 0
    · have ea : absI x = -x := if_pos g
      have en : nearS x d = -near (absI x) d := by unfold nearS; rw [if_pos g, ea]
      omega
    · have ea : absI x = x := if_neg g
      have en : nearS x d = near (absI x) d := by unfold nearS; rw [if_neg g, ea]
      omega
  obtain ⟨k1, k2, k3⟩ := key
  have nn : 0 ≤ absI x := by unfold absI; split <;> omega
  have nq : 0 ≤ absI x / d := Int.ediv_nonneg nn (by omega)
  have hq : qW (magHi x) (magLo x) d ≤ 9223372036854775808 := by unfold qW; rw [a5]; omega
  have hh : magHi x < d := by
    rcases Int.lt_or_le (magHi x) d with g | g
    · exact g
    · have : 18446744073709551616 ≤ absI x / d := (Int.le_ediv_iff_mul_le d0).2 (by omega)
      omega
  have cQ := fun w0 => qn_yes (magHi x) (magLo x) d a1 d0 d1 a3 a4 hh hq w0
  rw [a5] at cQ
  obtain ⟨N, hN⟩ : ∃ N, N = near (absI x) d := ⟨_, rfl⟩
  rw [← hN] at cQ k1 k2 k3 n1 n2
  have n0 : 0 ≤ N := by omega
  have HQ := Lib.hid cQ
  have b0 : decide (d ≤ 0) = false := by simp; omega
  by_cases hs : hiW x < 0
  · have hv := k3 ((neg_hi hx).1 hs)
    rw [hv]
    clear k2 k3 hv a5 cQ hN
    go_enter Try.func20, Try.ntmps20
    go_wp2_with (first
      | (go_at_call 27; refine (mag_any x hx _).mono ?_; rintro e w1 ⟨rfl, hb1⟩; obtain ⟨z1, z2, z3⟩ := keep1 hb1 (new1 w (.int .i64 (hiW x)) (.int .u64 (loW x)) 28))
      | (go_at_call 28; refine (HQ.out _).mono ?_; rintro e w2 ⟨rfl, hb2⟩; obtain ⟨y1, y2, y3⟩ := keep1 hb2 ⟨z1, z2, z3⟩)
      | (go_at_call 29; refine (signed_neg N n0 k1 _).mono ?_; rintro e w3 ⟨rfl, rfl⟩))
    go_ret2
    exact ⟨rfl, (((Below.refl _ _).alloc (Nat.le_refl _) _).trans (hb1.mono (by simp))).trans (hb2.mono (by have := hb1.size; simp at this; omega))⟩
  · obtain ⟨k4, hv⟩ := k2 (by have := neg_hi hx; omega)
    have b1 : decide (hiW x < 0) = false := by simpa using hs
    rw [hv]
    clear k2 k3 hv a5 cQ hN
    go_enter Try.func20, Try.ntmps20
    go_wp2_with (first
      | (go_at_call 27; refine (mag_any x hx _).mono ?_; rintro e w1 ⟨rfl, hb1⟩; obtain ⟨z1, z2, z3⟩ := keep1 hb1 (new1 w (.int .i64 (hiW x)) (.int .u64 (loW x)) 28))
      | (go_at_call 28; refine (HQ.out _).mono ?_; rintro e w2 ⟨rfl, hb2⟩; obtain ⟨y1, y2, y3⟩ := keep1 hb2 ⟨z1, z2, z3⟩)
      | (go_at_call 29; refine (signed_pos N n0 k4 _).mono ?_; rintro e w3 ⟨rfl, rfl⟩))
    go_ret2
    exact ⟨rfl, (((Below.refl _ _).alloc (Nat.le_refl _) _).trans (hb1.mono (by simp))).trans (hb2.mono (by have := hb1.size; simp at this; omega))⟩

set_option maxHeartbeats 400000 in
theorem quo_no (x d : Int) (hx : W128 x) (d0 : 0 < d) (d1 : d ≤ 9223372036854775807) (h : ¬ I64 (nearS x d)) (w : World) :
    Calls Try.prog 20 #[.agg #[.int .i64 (hiW x), .int .u64 (loW x)], .int .i64 d] w fun e w' => e = .returned (.tuple #[.int .i64 0, .bool false]) ∧ Below w.heap.size w w' := by
  obtain ⟨a1, a2, a3, a4, a5⟩ := mag_bd hx
  obtain ⟨n1, n2⟩ := near_bd (absI x) d
  have nn : 0 ≤ absI x := by unfold absI; split <;> omega
  have nq : 0 ≤ absI x / d := Int.ediv_nonneg nn (by omega)
  have key : (0 ≤ x → 9223372036854775808 ≤ near (absI x) d) ∧ (x < 0 → 9223372036854775808 < near (absI x) d) := by
    by_cases g : x < 0
    · have ea : absI x = -x := if_pos g
      have en : nearS x d = -near (absI x) d := by unfold nearS; rw [if_pos g, ea]
      unfold I64 at h; omega
    · have ea : absI x = x := if_neg g
      have en : nearS x d = near (absI x) d := by unfold nearS; rw [if_neg g, ea]
      unfold I64 at h; omega
  have b0 : decide (d ≤ 0) = false := by simp; omega
  by_cases hq : d ≤ magHi x ∨ 9223372036854775808 < qW (magHi x) (magLo x) d
  · have HQ := Lib.hid (fun w0 => qn_no (magHi x) (magLo x) d a1 d0 d1 a3 a4 hq w0)
    clear hq key a5
    go_enter Try.func20, Try.ntmps20
    go_wp2_with (first
      | (go_at_call 27; refine (mag_any x hx _).mono ?_; rintro e w1 ⟨rfl, hb1⟩)
      | (go_at_call 28; refine (HQ.out _).mono ?_; rintro e w2 ⟨rfl, hb2⟩))
    go_ret2
    exact ⟨rfl, (((Below.refl _ _).alloc (Nat.le_refl _) _).trans (hb1.mono (by simp))).trans (hb2.mono (by have := hb1.size; simp at this; omega))⟩
  · have hh : magHi x < d := by omega
    have hq' : qW (magHi x) (magLo x) d ≤ 9223372036854775808 := by omega
    have cQ := fun w0 => qn_yes (magHi x) (magLo x) d a1 d0 d1 a3 a4 hh hq' w0
    rw [a5] at cQ
    obtain ⟨N, hN⟩ : ∃ N, N = near (absI x) d := ⟨_, rfl⟩
    rw [← hN] at cQ key n1 n2
    have n0 : 0 ≤ N := by omega
    have HQ := Lib.hid cQ
    have hb : if decide (hiW x < 0) = true then 9223372036854775808 < N else 9223372036854775808 ≤ N := by
      have := neg_hi hx
      by_cases hs : hiW x < 0
      · rw [if_pos (by simpa using hs)]; exact key.2 (by omega)
      · rw [if_neg (by simpa using hs)]; exact key.1 (by omega)
    obtain ⟨B, hB⟩ : ∃ B, decide (hiW x < 0) = B := ⟨_, rfl⟩
    rw [hB] at hb
    have HB := Lib.hid hb
    clear hq key a5 cQ hN hb hq'
    go_enter Try.func20, Try.ntmps20
    go_wp2_with (first
      | (go_at_call 27; refine (mag_any x hx _).mono ?_; rintro e w1 ⟨rfl, hb1⟩; obtain ⟨z1, z2, z3⟩ := keep1 hb1 (new1 w (.int .i64 (hiW x)) (.int .u64 (loW x)) 28))
      | (go_at_call 28; refine (HQ.out _).mono ?_; rintro e w2 ⟨rfl, hb2⟩; obtain ⟨y1, y2, y3⟩ := keep1 hb2 ⟨z1, z2, z3⟩)
      | (go_at_call 29; refine (signed_no N B n0 HB.out _).mono ?_; rintro e w3 ⟨rfl, rfl⟩))
    go_ret2
    exact ⟨rfl, (((Below.refl _ _).alloc (Nat.le_refl _) _).trans (hb1.mono (by simp))).trans (hb2.mono (by have := hb1.size; simp at this; omega))⟩
end Go.Proofs.Ytddlannblopbeaa
