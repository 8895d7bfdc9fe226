/-
  The walk of the statement WideNearest: for every three ints the call returns true; nothing that was in memory turns.
-/
import Derived.Test.YtnjegjmcfldpnaaLFits
import Derived.Test.YtnjegjmcfldpnaaWAdd
import Derived.Test.YtnjegjmcfldpnaaWCmp
namespace Go.Proofs.Ytnjegjmcfldpnaa
set_option linter.unusedVariables false
set_option linter.unusedSimpArgs false
open Go.RowKit

theorem and1_i64 (n : Int) : bits .and .i64 n 1 = n % 2 := by
  have one : (BitVec.ofInt 64 1).toNat = 1 := by decide
  have e : (BitVec.ofInt 64 n &&& BitVec.ofInt 64 1).toNat = (n % ((2 ^ 64 : Nat) : Int)).toNat % 2 := by
    rw [BitVec.toNat_and, BitVec.toNat_ofInt, one, Nat.and_one_is_mod]
  have f : bits .and .i64 n 1 = IntKind.i64.wrap ((BitVec.ofInt 64 n &&& BitVec.ofInt 64 1).toNat : Nat) := rfl
  rw [f, e, IntKind.wrap_i64]
  omega

/-- What holds of a rounded quotient: twice what is left lies within the divisor, and at its ends the quotient is even. -/
theorem near_ok (x d : Int) (hd : 0 < d) : -d ≤ 2 * (x - d * near x d) ∧ 2 * (x - d * near x d) ≤ d ∧ (2 * (x - d * near x d) = d ∨ 2 * (x - d * near x d) = -d → near x d % 2 = 0) := by
  have e : d * (x / d) + x % d = x := Int.mul_ediv_add_emod x d
  have r0 := Int.emod_nonneg x (show d ≠ 0 by omega)
  have r1 := Int.emod_lt_of_pos x hd
  have e1 : d * (x / d + 1) = d * (x / d) + d := by rw [Int.mul_add, Int.mul_one]
  unfold near
  split
  · generalize d * (x / d) = A at *; omega
  · split
    · rw [e1]; generalize d * (x / d) = A at *; omega
    · split
      · generalize d * (x / d) = A at *; omega
      · rw [e1]; generalize d * (x / d) = A at *; omega
theorem near_zero (d : Int) (hd : 0 < d) : near 0 d = 0 := by unfold near; rw [Int.zero_emod, Int.zero_ediv, if_pos (by omega)]
theorem nearS_neg (x d : Int) (hd : 0 < d) : nearS (-x) d = -nearS x d := by
  unfold nearS
  rcases Int.lt_trichotomy x 0 with h | h | h
  · rw [if_neg (by omega), if_pos h]; omega
  · subst h; simp [near_zero d hd]
  · rw [if_pos (by omega), if_neg (by omega), Int.neg_neg]
theorem nearS_ok (x d : Int) (hd : 0 < d) : -d ≤ x + x + -2 * d * nearS x d ∧ x + x + -2 * d * nearS x d ≤ d ∧ (x + x + -2 * d * nearS x d = d ∨ x + x + -2 * d * nearS x d = -d → nearS x d % 2 = 0) := by
  have e : -2 * d * nearS x d = -2 * (d * nearS x d) := Int.mul_assoc _ _ _
  rw [e]
  unfold nearS
  split
  · obtain ⟨a, b, c⟩ := near_ok (-x) d hd
    rw [Int.mul_neg]
    generalize d * near (-x) d = A at *
    omega
  · obtain ⟨a, b, c⟩ := near_ok x d hd
    generalize d * near x d = A at *
    omega
theorem near_size (x d : Int) (hd : 0 < d) (hx : 0 ≤ x) : 0 ≤ near x d ∧ near x d ≤ x + 1 := by
  have h := near_bd x d
  have h1 : 0 ≤ x / d := Int.ediv_nonneg hx (by omega)
  have h2 : x / d ≤ x := Int.ediv_le_self d hx
  omega
theorem nearS_size (x d : Int) (hd : 0 < d) : -(absI x + 1) ≤ nearS x d ∧ nearS x d ≤ absI x + 1 := by
  unfold nearS absI
  split
  · have := near_size (-x) d hd (by omega); omega
  · have := near_size x d hd (by omega); omega
theorem cmpI_ge {x y : Int} (h : y ≤ x) : 0 ≤ cmpI x y ∧ (cmpI x y = 0 → x = y) := by
  unfold cmpI; rw [if_neg (by omega)]; split <;> omega
theorem cmpI_le {x y : Int} (h : x ≤ y) : cmpI x y ≤ 0 ∧ (cmpI x y = 0 → x = y) := by
  unfold cmpI; split
  · omega
  · split <;> omega
theorem cmpI_bd (x y : Int) : -1 ≤ cmpI x y ∧ cmpI x y ≤ 1 := by unfold cmpI; split <;> (try split) <;> omega

theorem keepS {W W1 w' : World} {n : Nat} {v0 v1 : Value} (hb : Below W1.heap.size W1 w') (h : Below W.heap.size W W1 ∧ W1.cell? ⟨n, 0, none⟩ = some v0 ∧ W1.cell? ⟨n, 1, none⟩ = some v1) (hn : n < W.heap.size) : Below W.heap.size W w' ∧ w'.cell? ⟨n, 0, none⟩ = some v0 ∧ w'.cell? ⟨n, 1, none⟩ = some v1 := by
  obtain ⟨h1, h2, h3⟩ := h
  have := h1.size
  exact ⟨h1.trans (hb.mono this), by rw [hb.cell (p := ⟨n, 0, none⟩) (by show n < _; omega)]; exact h2, by rw [hb.cell (p := ⟨n, 1, none⟩) (by show n < _; omega)]; exact h3⟩

set_option maxHeartbeats 1000000 in
theorem near_any (a b c : Int) (ha : I64 a) (hb : I64 b) (hc : I64 c) (w : World) : Calls Try.prog 7 #[.int .i64 a, .int .i64 b, .int .i64 c] w fun e w' => e = .returned (.bool true) ∧ Below w.heap.size w w' := by
  go_enter Try.func7, Try.ntmps7
  go_wp2_with fail
  refine (within_in a (-1099511627776) 1099511627776 ha (by decide) (by decide) (by decide) (by decide) _).mono ?_
  rintro e w' ⟨x, rfl, x0, x1, rfl⟩
  go_wp2_with fail
  refine (within_in b (-1048576) 1048576 hb (by decide) (by decide) (by decide) (by decide) _).mono ?_
  rintro e w' ⟨y, rfl, y0, y1, rfl⟩
  go_wp2_with fail
  refine (within_in c 1 1099511627776 hc (by decide) (by decide) (by decide) (by decide) _).mono ?_
  rintro e w' ⟨k, rfl, k0, k1, rfl⟩
  have hx : I64 x := ⟨by omega, by omega⟩
  have hx' : I64 (-x) := ⟨by omega, by omega⟩
  have hy : I64 y := ⟨by omega, by omega⟩
  have hk : I64 k := ⟨by omega, by omega⟩
  have hk' : I64 (-k) := ⟨by omega, by omega⟩
  have pb : -1152921504606846976 ≤ x * y ∧ x * y ≤ 1152921504606846976 := by
    have m1 : (x + 1099511627776) * (1048576 - y) ≥ 0 := Int.mul_nonneg (by omega) (by omega)
    have m2 : (1099511627776 - x) * (1048576 + y) ≥ 0 := Int.mul_nonneg (by omega) (by omega)
    have m3 : (1099511627776 - x) * (1048576 - y) ≥ 0 := Int.mul_nonneg (by omega) (by omega)
    have m4 : (x + 1099511627776) * (1048576 + y) ≥ 0 := Int.mul_nonneg (by omega) (by omega)
    rw [Int.add_mul, Int.mul_sub x] at m1
    rw [Int.sub_mul, Int.mul_add x] at m2
    rw [Int.sub_mul, Int.mul_sub x] at m3
    rw [Int.add_mul, Int.mul_add x] at m4
    omega
  have hP : W128 (x * y) := prod_W128 hx hy
  have np : -x * y = -(x * y) := Int.neg_mul x y
  have mul2 := fun w0 => mul_any (-x) y hx' hy w0
  rw [np] at mul2
  go_wp2_with fail
  refine (mul_any x y hx hy _).mono ?_
  rintro e w1 ⟨rfl, b1⟩
  generalize x * y = P at *
  have nb := nearS_size P k (by omega)
  have ab : absI P ≤ 1152921504606846976 := by unfold absI; split <;> omega
  have hQ : I64 (nearS P k) := ⟨by omega, by omega⟩
  have q1 := fun w0 => quo_yes P k hP (by omega) (by omega) hQ w0
  have q2 := fun w0 => quo_yes (-P) k ⟨by omega, by omega⟩ (by omega) (by omega) (by rw [nearS_neg P k (by omega)]; exact ⟨by omega, by omega⟩) w0
  rw [nearS_neg P k (by omega)] at q2
  obtain ⟨o1, o2, o3⟩ := nearS_ok P k (by omega)
  obtain ⟨q, hq⟩ : ∃ q, q = nearS P k := ⟨_, rfl⟩
  rw [← hq] at q1 q2 o1 o2 o3 hQ nb
  have HQ1 := Lib.hid q1; have HQ2 := Lib.hid q2; have HM := Lib.hid mul2; have O3 := Lib.hid o3
  clear q1 q2 mul2 hq np o3
  go_wp2_with fail
  refine (HQ1.out _).mono ?_
  rintro e w2 ⟨rfl, b2⟩
  have e2 := keep1 b2 (new1 w1 (.int .i64 (hiW P)) (.int .u64 (loW P)) 24)
  go_wp2_with fail
  refine (HM.out _).mono ?_
  rintro e w3 ⟨rfl, b3⟩
  go_wp2_with fail
  refine (HQ2.out _).mono ?_
  rintro e w4 ⟨rfl, b4⟩
  have e4 := keep1 b4 (keep1 b3 e2)
  have bel : Below w.heap.size w w4 := by
    have s1 := b1.size; have s2 := b2.size; have s3 := b3.size
    simp at s2
    exact (((b1.alloc (by omega) _).trans (b2.mono (by simp; omega))).trans (b3.mono (by omega))).trans (b4.mono (by omega))
  generalize w1.heap.size = nP at *
  obtain ⟨e41, e42, e43⟩ := id e4
  clear e2
  go_wp2_with fail
  refine (add_any P P _).mono ?_
  rintro e w5 ⟨rfl, b5⟩
  go_wp2_with fail
  refine (mul_any (-2 * k) q ⟨by omega, by omega⟩ hQ _).mono ?_
  rintro e w6 ⟨rfl, b6⟩
  go_wp2_with fail
  refine (add_any (P + P) (-2 * k * q) _).mono ?_
  rintro e w7 ⟨rfl, b7⟩
  obtain ⟨D, hD⟩ : ∃ D, D = P + P + -2 * k * q := ⟨_, rfl⟩
  rw [← hD] at o1 o2
  rw [← hD]
  have HD := Lib.hid hD
  have hDw : W128 D := ⟨by omega, by omega⟩
  clear hD
  go_wp2
  have e8 := keep1 ((Below.refl w7.heap.size w7).alloc (Nat.le_refl _) (.cells #[.int .i64 (hiW D), .int .u64 (loW D)] 24)) (keep1 b7 (keep1 b6 (keep1 b5 e4)))
  have t8 := new1 w7 (.int .i64 (hiW D)) (.int .u64 (loW D)) 24
  have bel8 : Below w.heap.size w (w7.alloc (.cells #[.int .i64 (hiW D), .int .u64 (loW D)] 24)) := by
    have s0 := bel.size; have s5 := b5.size; have s6 := b6.size; have s7 := b7.size
    exact (((bel.trans (b5.mono (by omega))).trans (b6.mono (by omega))).trans (b7.mono (by omega))).alloc (by omega) _
  generalize w7.alloc (.cells #[.int .i64 (hiW D), .int .u64 (loW D)] 24) = W at *
  generalize w7.heap.size = nT at *
  clear e41 e42 e43 e4 b1 b2 b3 b4 b5 b6 b7 bel
  obtain ⟨t81, t82, t83⟩ := t8
  have E8 := Lib.hid e8
  clear e8
  have wk : IntKind.i64.wrap (-k) = -k := by rw [IntKind.wrap_i64]; omega
  have wk' : wrap64 (-k) = -k := by unfold wrap64; omega
  go_region_held3 (fun w' => Below W.heap.size W w' ∧ w'.cell? ⟨nT, 0, none⟩ = some (.int .i64 (hiW D)) ∧ w'.cell? ⟨nT, 1, none⟩ = some (.int .u64 (loW D))) (first | exact keepS (by assumption) (by assumption) t81 | exact ⟨(Below.refl _ _).drew, t82, t83⟩)
    (first
      | (go_at_call 12; (first | (with_reducible refine (of_any (-k) hk' _).mono ?_) | (with_reducible refine (of_any k hk _).mono ?_)); rintro e w' ⟨rfl, hb⟩)
      | (go_at_call 20; (first | (with_reducible refine (cmp_any D (-k) hDw hk'.W128 _).mono ?_) | (with_reducible refine (cmp_any D k hDw hk.W128 _).mono ?_)); rintro e w' ⟨rfl, hb⟩))
  clear wk wk'
  obtain ⟨bW, -, -⟩ := ‹Below W.heap.size W _ ∧ _›
  have e9 := keep1 bW E8.out
  have bel9 := bel8.trans (bW.mono bel8.size)
  obtain ⟨c1, c2⟩ := cmpI_ge (x := D) (y := -k) o1
  obtain ⟨c3, c4⟩ := cmpI_le (x := D) (y := k) o2
  have hev : cmpI D (-k) = 0 ∨ cmpI D k = 0 → bits .and .i64 q 1 = 0 := by
    intro h
    rw [and1_i64]
    have := HD.out
    exact O3.out (by rcases h with h | h
                     · have := c2 h; omega
                     · have := c4 h; omega)
  generalize cmpI D (-k) = L at *
  generalize cmpI D k = R at *
  have key : (Hid ((L == 0) = true) ∧ Hid ((R == 0) = (R == 0)) ∧ Hid (bits .and .i64 q 1 = 0)) ∨ (Hid ((L == 0) = false) ∧ Hid ((R == 0) = true) ∧ Hid (bits .and .i64 q 1 = 0)) ∨ (Hid ((L == 0) = false) ∧ Hid ((R == 0) = false) ∧ Hid True) := by
    by_cases hL : L = 0
    · exact Or.inl ⟨Lib.hid (by simpa using hL), Lib.hid rfl, Lib.hid (hev (Or.inl hL))⟩
    · by_cases hR : R = 0
      · exact Or.inr (Or.inl ⟨Lib.hid (by simpa using hL), Lib.hid (by simpa using hR), Lib.hid (hev (Or.inr hR))⟩)
      · exact Or.inr (Or.inr ⟨Lib.hid (by simpa using hL), Lib.hid (by simpa using hR), Lib.hid trivial⟩)
  clear hev c2 c4 HQ1 HQ2 HM O3 HD t81 t82 t83 bW
  have hbig : ¬ I64 (nearS (4611686018427387904 * 4611686018427387904) k) := by
    have h1 := near_bd (4611686018427387904 * 4611686018427387904) k
    have h2 : 9223372036854775808 ≤ 4611686018427387904 * 4611686018427387904 / k := (Int.le_ediv_iff_mul_le (by omega)).2 (by omega)
    unfold nearS; rw [if_neg (by decide)]
    intro h; have := h.2; omega
  have BIG := Lib.hid hbig
  clear hbig
  rcases key with ⟨u1, u2, u3⟩ | ⟨u1, u2, u3⟩ | ⟨u1, u2, u3⟩
  all_goals
    replace u1 := u1.out
    replace u2 := u2.out
    replace u3 := u3.out
    obtain ⟨e91, e92, e93⟩ := id e9
    go_wp2_with fail
    refine (quo_bad P 0 (by decide) _).mono ?_
    rintro e w10 ⟨rfl, b10⟩
    have e10 := keep1 b10 e9
    obtain ⟨e101, e102, e103⟩ := id e10
    go_wp2_with fail
    refine (quo_bad P (-k) (by omega) _).mono ?_
    rintro e w11 ⟨rfl, b11⟩
    go_wp2_with fail
    refine (mul_any 4611686018427387904 4611686018427387904 ⟨by decide, by decide⟩ ⟨by decide, by decide⟩ _).mono ?_
    rintro e w12 ⟨rfl, b12⟩
    go_wp2_with fail
    refine (quo_no _ k ⟨by decide, by decide⟩ (by omega) (by omega) BIG.out _).mono ?_
    rintro e w13 ⟨rfl, b13⟩
    go_wp2_with fail
    refine (runs_any _).mono ?_
    rintro e w14 ⟨rfl, b14⟩
    go_wp2
    go_ret
    have s9 := bel9.size; have s10 := b10.size; have s11 := b11.size; have s12 := b12.size; have s13 := b13.size
    exact ⟨rfl, ((((bel9.trans (b10.mono (by omega))).trans (b11.mono (by omega))).trans (b12.mono (by omega))).trans (b13.mono (by omega))).trans (b14.mono (by omega))⟩
end Go.Proofs.Ytnjegjmcfldpnaa
