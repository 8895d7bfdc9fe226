/-
  The contract of the document's own Quo (sheafref1): it returns the nearest whole number, of two as near the even one, and true, or 0 and false; nothing that was in memory turns. (Quo: of numbers within 2 of the ends of 128 bits nothing is said.)
-/
import Derived.Test.YtddlannblopbeaaRefA
import Derived.Test.YtddlannblopbeaaWCell
import Derived.Test.YtddlannblopbeaaWQuo
import Derived.Deep.DeepCutAuto
namespace Go.Proofs.Ytddlannblopbeaa
set_option linter.unusedVariables false
set_option linter.unusedSimpArgs false
open Go.RowKit

theorem rquo_bad (x d : Int) (hd : d ≤ 0) (w : World) :
    Calls Try.prog 25 #[.agg #[.int .i64 (hiW x), .int .u64 (loW x)], .int .i64 d] w fun e w' => e = .returned (.tuple #[.int .i64 0, .bool false]) ∧ Below w.heap.size w w' := by
  go_enter Try.func25, Try.ntmps25
  go_wp2
  go_ret2
  exact ⟨rfl, (Below.refl _ _).alloc (Nat.le_refl _) _⟩

/-- The school division, bit by bit: behind the bits from n on. -/
def QInv (X d : Int) (n : Nat) (q r : Int) : Prop := q * d + r = X / 2 ^ n ∧ 0 ≤ r ∧ r < d ∧ 0 ≤ q
theorem two_pow_half (X : Int) (k : Nat) : X / 2 ^ k = 2 * (X / 2 ^ (k + 1)) + X / 2 ^ k % 2 := by
  have e : X / 2 ^ (k + 1) = X / 2 ^ k / 2 := by rw [Int.pow_succ, Int.ediv_ediv_of_nonneg (Int.le_of_lt (Int.pow_pos (by decide)))]
  rw [e]; omega
theorem QInv.low {X d q r : Int} {k : Nat} (h : QInv X d (k + 1) q r) (hb : 2 * r + X / 2 ^ k % 2 < d) : QInv X d k (q + q) (2 * r + X / 2 ^ k % 2) := by
  obtain ⟨h1, h2, h3, h4⟩ := h
  have e := two_pow_half X k
  refine ⟨?_, by omega, hb, by omega⟩
  rw [Int.add_mul]
  generalize q * d = A at *
  omega
theorem QInv.high {X d q r : Int} {k : Nat} (h : QInv X d (k + 1) q r) (hb : d ≤ 2 * r + X / 2 ^ k % 2) : QInv X d k (q + q + 1) (2 * r + X / 2 ^ k % 2 - d) := by
  obtain ⟨h1, h2, h3, h4⟩ := h
  have e := two_pow_half X k
  refine ⟨?_, by omega, by omega, by omega⟩
  rw [Int.add_mul, Int.add_mul, Int.one_mul]
  generalize q * d = A at *
  omega
theorem QInv.done {X d q r : Int} (h : QInv X d 0 q r) : q = X / d ∧ r = X % d := by
  obtain ⟨h1, h2, h3, h4⟩ := h
  simp only [Int.pow_zero, Int.ediv_one] at h1
  have hd : 0 < d := by omega
  rw [← h1, Int.add_comm, Int.add_mul_ediv_right _ _ (by omega), Int.add_mul_emod_self_right, Int.ediv_eq_zero_of_lt h2 h3, Int.emod_eq_of_lt h2 h3]
  omega
theorem QInv.start (X d : Int) (h0 : 0 ≤ X) (h1 : X < 340282366920938463463374607431768211456) (hd : 0 < d) : QInv X d 128 0 0 := by
  have e : X / 2 ^ 128 = 0 := Int.ediv_eq_zero_of_lt h0 h1
  exact ⟨by rw [e]; simp, by omega, hd, by omega⟩

/-- What holds at the head of Quo's loop. -/
def QL (B : World) (nq : Nat) (X d : Int) (r i : Value) (wr : World) : Prop :=
  ∃ (n : Nat) (Q R : Int), n ≤ 128 ∧ i = .int .i64 ((n : Int) - 1) ∧ r = .int .u64 R ∧ QInv X d n Q R ∧ Cell2 wr nq (.int .i64 (hiW Q)) (.int .u64 (loW Q)) ∧ Cell2 wr B.heap.size (.int .i64 (hiW X)) (.int .u64 (loW X)) ∧ Below B.heap.size B wr

theorem bit_lo (x : Int) (k : Nat) (hk : k < 64) : bits .and .u64 (loW x / 2 ^ k) 1 = x / 2 ^ k % 2 := by
  have hp : (0 : Int) < 2 ^ k := Int.pow_pos (by decide)
  obtain ⟨l0, l1⟩ := loW_bd x
  have q0 : 0 ≤ loW x / 2 ^ k := Int.ediv_nonneg l0 (Int.le_of_lt hp)
  have q1 : loW x / 2 ^ k ≤ loW x := Int.ediv_le_self _ l0
  rw [and_one_u64 _ q0 (by omega)]
  have e : x = loW x + x / 18446744073709551616 * (2 ^ (64 - k)) * 2 ^ k := by
    rw [Int.mul_assoc, ← Int.pow_add, show 64 - k + k = 64 by omega, show (2 : Int) ^ 64 = 18446744073709551616 by decide]; unfold loW; omega
  have f : (2 : Int) ^ (64 - k) = 2 * 2 ^ (63 - k) := by rw [show 64 - k = (63 - k) + 1 by omega, Int.pow_succ, Int.mul_comm]
  have g : x / 2 ^ k = loW x / 2 ^ k + x / 18446744073709551616 * (2 ^ (64 - k)) := by
    have h := Int.add_mul_ediv_right (loW x) (x / 18446744073709551616 * 2 ^ (64 - k)) (c := 2 ^ k) (Int.ne_of_gt hp)
    rw [← e] at h; exact h
  rw [g, f, ← Int.mul_assoc, Int.mul_comm _ 2, Int.mul_assoc]
  omega
theorem bit_hi (x : Int) (k : Nat) (hk : 64 ≤ k) (h0 : 0 ≤ x) (h1 : x < 170141183460469231731687303715884105728) : bits .and .u64 (hiW x / 2 ^ (k - 64)) 1 = x / 2 ^ k % 2 := by
  have hp : (0 : Int) < 2 ^ (k - 64) := Int.pow_pos (by decide)
  have hw : hiW x = x / 18446744073709551616 := hiW_of ⟨by omega, by omega⟩
  have q0 : 0 ≤ hiW x / 2 ^ (k - 64) := Int.ediv_nonneg (by omega) (Int.le_of_lt hp)
  have q1 : hiW x / 2 ^ (k - 64) ≤ hiW x := Int.ediv_le_self _ (by omega)
  rw [and_one_u64 _ q0 (by omega), hw]
  have e : x / 2 ^ k = x / 18446744073709551616 / 2 ^ (k - 64) := by
    rw [Int.ediv_ediv_of_nonneg (by decide)]
    have : (18446744073709551616 : Int) * 2 ^ (k - 64) = 2 ^ k := by
      have h64 : (18446744073709551616 : Int) = 2 ^ 64 := by decide
      rw [h64, ← Int.pow_add, show 64 + (k - 64) = k by omega]
    rw [this]
  rw [e]
theorem or_bit (r b : Int) (r0 : 0 ≤ r) (r1 : r ≤ 9223372036854775807) (b0 : 0 ≤ b) (b1 : b ≤ 1) : bits .or .u64 (r * 2) b = 2 * r + b := by
  obtain ⟨C, rfl⟩ := Int.eq_ofNat_of_zero_le r0
  obtain ⟨O, rfl⟩ := Int.eq_ofNat_of_zero_le b0
  have e1 : (C : Int) * 2 = ((2 ^ 1 * C : Nat) : Int) := by omega
  rw [e1, bits_or_u64_nat _ _ (by omega) (by omega), ← Nat.two_pow_add_eq_or_of_lt (show O < 2 ^ 1 by omega) C]
  omega
theorem or_one (q : Int) : bits .or .u64 (loW (q + q)) 1 = loW (q + q + 1) ∧ hiW (q + q + 1) = hiW (q + q) := by
  have e : loW (q + q) = loW (q + q) / 2 * 2 := by unfold loW; omega
  obtain ⟨l0, l1⟩ := loW_bd (q + q)
  have h := or_bit (loW (q + q) / 2) 1 (by omega) (by omega) (by decide) (by decide)
  rw [← e] at h
  rw [h]
  unfold hiW loW; omega
theorem radd_one (q : Int) (w : World) :
    Calls Try.prog 13 #[.agg #[.int .i64 (hiW q), .int .u64 (loW q)], .agg #[.int .i64 0, .int .u64 1]] w fun e w' => e = .returned (.agg #[.int .i64 (hiW (q + 1)), .int .u64 (loW (q + 1))]) ∧ Below w.heap.size w w' := by
  have e1 : hiW 1 = 0 := by decide
  have e2 : loW 1 = 1 := by decide
  have h := radd_any q 1 w
  rw [e1, e2] at h; exact h
theorem Cell2.set1 {w : World} {n : Nat} {v0 v1 : Value} (h : Cell2 w n v0 v1) (u1 : Value) : Cell2 (w.setCell ⟨n, 1, none⟩ u1) n v0 u1 := by
  obtain ⟨h1, h2, h3, h4, h5⟩ := h
  have e0 : (⟨n, 1, none⟩ : Addr) ≠ ⟨n, 0, none⟩ := by intro h; injection h with _ h; exact absurd h (by decide)
  exact ⟨by simpa [World.setCell] using h1, by rw [World.cell?_setCell_other _ _ _ _ e0]; exact h2, World.cell?_setCell_same _ _ _ h3, by simpa using h4, by simpa using h5⟩
theorem Cell2.far1 {w : World} {n m : Nat} {v0 v1 : Value} (h : Cell2 w n v0 v1) (hne : m ≠ n) (u1 : Value) : Cell2 (w.setCell ⟨m, 1, none⟩ u1) n v0 v1 := by
  obtain ⟨h1, h2, h3, h4, h5⟩ := h
  have e (j : Nat) : (⟨m, 1, none⟩ : Addr) ≠ ⟨n, j, none⟩ := by intro h; injection h with h; exact hne h
  exact ⟨by simpa [World.setCell] using h1, by rw [World.cell?_setCell_other _ _ _ _ (e 0)]; exact h2, by rw [World.cell?_setCell_other _ _ _ _ (e 1)]; exact h3, by simpa using h4, by simpa using h5⟩
/-- How the rounding goes, by the remainder and the quotient. -/
theorem near_cases (x d q r : Int) (hq : q = x / d) (hr : r = x % d) : (2 * r < d → near x d = q) ∧ (d < 2 * r → near x d = q + 1) ∧ (2 * r = d → q % 2 = 1 → near x d = q + 1) ∧ (2 * r = d → ¬ q % 2 = 1 → near x d = q) := by
  subst hq hr
  unfold near
  refine ⟨fun h => by rw [if_pos h], fun h => by rw [if_neg (by omega), if_pos h], fun h g => by rw [if_neg (by omega), if_neg (by omega), if_neg (by omega)], fun h g => by rw [if_neg (by omega), if_neg (by omega), if_pos (by omega)]⟩

set_option maxRecDepth 100000 in
set_option maxHeartbeats 2000000 in
theorem rquo_pos (x d : Int) (hx0 : 0 ≤ x) (hx1 : x < 170141183460469231731687303715884105726) (d0 : 0 < d) (d1 : d ≤ 9223372036854775807) (w : World) :
    Calls Try.prog 25 #[.agg #[.int .i64 (hiW x), .int .u64 (loW x)], .int .i64 d] w fun e w' => ((I64 (near x d) → e = .returned (.tuple #[.int .i64 (near x d), .bool true])) ∧ (¬ I64 (near x d) → e = .returned (.tuple #[.int .i64 0, .bool false]))) ∧ Below w.heap.size w w' := by
  have hh : 0 ≤ hiW x := by rw [hiW_of ⟨by omega, by omega⟩]; omega
  have b1 : decide (hiW x < 0) = false := by simp; omega
  obtain ⟨X, hX⟩ : ∃ X, X = x := ⟨_, rfl⟩
  obtain ⟨N, hN⟩ : ∃ N, N = near X d := ⟨_, rfl⟩
  have eX : near x d = N := by rw [hN, hX]
  rw [eX]
  clear eX
  have HN := Lib.hid hN; have HX := Lib.hid hX
  clear hN hX
  have b0 : decide (d ≤ 0) = false := by simp; omega
  have z0 : hiW 0 = 0 := by decide
  have z1 : loW 0 = 0 := by decide
  go_enter Try.func25, Try.ntmps25
  go_wp2
  have Cw := (Cell2.new w (.int .i64 (hiW x)) (.int .u64 (loW x)) 28).alloc (.cells #[.int .i64 0, .int .u64 0] 28)
  have Cq := Cell2.new (w.alloc (.cells #[.int .i64 (hiW x), .int .u64 (loW x)] 28)) (.int .i64 0) (.int .u64 0) 28
  have bel := ((Below.refl w.heap.size w).alloc (Nat.le_refl _) (.cells #[.int .i64 (hiW x), .int .u64 (loW x)] 28)).alloc (by simp) (.cells #[.int .i64 0, .int .u64 0] 28)
  have en : (w.alloc (.cells #[.int .i64 (hiW x), .int .u64 (loW x)] 28)).heap.size = w.heap.size + 1 := by simp
  rw [en] at Cq
  have hne : w.heap.size + 1 ≠ w.heap.size := by omega
  have hnb : w.heap.size ≤ w.heap.size + 1 := by omega
  clear en
  generalize (w.alloc (.cells #[.int .i64 (hiW x), .int .u64 (loW x)] 28)).alloc (.cells #[.int .i64 0, .int .u64 0] 28) = W at *
  generalize w.heap.size + 1 = nq at *
  rw [← HX.out] at Cw
  have hX0 : 0 ≤ X := by rw [HX.out]; omega
  have hX1 : X < 170141183460469231731687303715884105726 := by rw [HX.out]; omega
  have SX := QInv.start X d hX0 (by omega) d0
  have hhX : 0 ≤ hiW X := by rw [hiW_of ⟨by omega, by omega⟩]; omega
  obtain ⟨l0, l1⟩ := loW_bd X
  obtain ⟨g0, g1⟩ := hiW_bd X
  go_loopw [8, 9, 10] (fun r i _ wr => QL w nq X d r i wr) (fun _ i _ _ => (intOf i + 1).toNat)
  case atStart => exact ⟨128, 0, 0, Nat.le_refl _, rfl, rfl, SX, by rw [z0, z1]; exact Cq, Cw, bel⟩
  case round =>
    clear Cw Cq bel SX
    obtain ⟨n, Q, R, hn, rfl, rfl, hinv, Cq, Cw, bel⟩ := hrel
    have HI := Lib.hid hinv; have HQ := Lib.hid Cq; have HW := Lib.hid Cw; have HB := Lib.hid bel
    obtain ⟨_, r0, r1, q0⟩ := hinv
    obtain ⟨_, c1, c2, c3, c4⟩ := Cq
    obtain ⟨_, c5, c6, c7, c8⟩ := Cw
    clear bel
    by_cases hz : n = 0
    · subst hz
      have ek : ((0 : Nat) : Int) - 1 = -1 := by decide
      rw [ek]
      clear ek
      obtain ⟨dq, dr⟩ := HI.out.done
      obtain ⟨f1, f2, f3, f4⟩ := near_cases X d Q R dq dr
      have nb := near_bd X d
      have qle : X / d ≤ X := Int.ediv_le_self d hX0
      have hN := HN.out
      rw [← hN] at f1 f2 f3 f4 nb
      have N0 : 0 ≤ N := by omega
      have N1 : N < 170141183460469231731687303715884105727 := by omega
      have key : (Hid (decide (d - R < R) = false) ∧ Hid ((R == d - R) = false) ∧ Hid True ∧ N = Q) ∨ (Hid (decide (d - R < R) = false) ∧ Hid ((R == d - R) = true) ∧ Hid ((bits .and .u64 (loW Q) 1 == 1) = false) ∧ N = Q) ∨ (Hid (decide (d - R < R) = true) ∧ Hid True ∧ Hid True ∧ Q + 1 = N) ∨ (Hid (decide (d - R < R) = false) ∧ Hid ((R == d - R) = true) ∧ Hid ((bits .and .u64 (loW Q) 1 == 1) = true) ∧ Q + 1 = N) := by
        obtain ⟨m0, m1⟩ := loW_bd Q
        have e1 : bits .and .u64 (loW Q) 1 = Q % 2 := by rw [and_one_u64 _ m0 m1]; unfold loW; omega
        rcases Int.lt_trichotomy (2 * R) d with h | h | h
        · exact Or.inl ⟨Lib.hid (by simp; omega), Lib.hid (by simp; omega), Lib.hid trivial, f1 h⟩
        · by_cases g : Q % 2 = 1
          · exact Or.inr (Or.inr (Or.inr ⟨Lib.hid (by simp; omega), Lib.hid (by simp; omega), Lib.hid (by rw [e1]; simpa using g), (f3 h g).symm⟩))
          · exact Or.inr (Or.inl ⟨Lib.hid (by simp; omega), Lib.hid (by simp; omega), Lib.hid (by rw [e1]; simpa using g), f4 h g⟩)
        · exact Or.inr (Or.inr (Or.inl ⟨Lib.hid (by simp; omega), Lib.hid trivial, Lib.hid trivial, (f2 h).symm⟩))
      clear f1 f2 f3 f4 dq dr hN nb qle c5 c6 c7 c8
      rcases key with ⟨u1, u2, u3, hq⟩ | ⟨u1, u2, u3, hq⟩ | ⟨u1, u2, u3, hq⟩ | ⟨u1, u2, u3, hq⟩
      · replace u1 := u1.out
        replace u2 := u2.out
        replace u3 := u3.out
        subst hq
        have Cq := HQ.out
        have bel := HB.out
        go_wp2_with fail
        by_cases hI : I64 N
        · refine (rint_yes N hI _).mono ?_
          rintro e w4 ⟨rfl, b4⟩
          go_wp2
          go_ret2
          exact ⟨⟨fun _ => rfl, fun h => absurd hI h⟩, bstep bel b4⟩
        · refine (rint_no N ⟨by omega, by omega⟩ hI _).mono ?_
          rintro e w4 ⟨rfl, b4⟩
          go_wp2
          go_ret2
          exact ⟨⟨fun h => absurd h hI, fun _ => rfl⟩, bstep bel b4⟩
      · replace u1 := u1.out
        replace u2 := u2.out
        replace u3 := u3.out
        subst hq
        have Cq := HQ.out
        have bel := HB.out
        go_wp2_with fail
        by_cases hI : I64 N
        · refine (rint_yes N hI _).mono ?_
          rintro e w4 ⟨rfl, b4⟩
          go_wp2
          go_ret2
          exact ⟨⟨fun _ => rfl, fun h => absurd hI h⟩, bstep bel b4⟩
        · refine (rint_no N ⟨by omega, by omega⟩ hI _).mono ?_
          rintro e w4 ⟨rfl, b4⟩
          go_wp2
          go_ret2
          exact ⟨⟨fun h => absurd h hI, fun _ => rfl⟩, bstep bel b4⟩
      · replace u1 := u1.out
        replace u2 := u2.out
        replace u3 := u3.out
        go_wp2_with fail
        refine (radd_one Q _).mono ?_
        rintro e w2 ⟨rfl, b2⟩
        rw [hq]
        have Cq0 := HQ.out.below b2
        clear c1 c2 c3 c4
        obtain ⟨_, c1, c2, c3, c4⟩ := id Cq0
        have Cq := Cq0.set (.int .i64 (hiW N)) (.int .u64 (loW N))
        have bel := ((bstep HB.out b2).setCell (p := ⟨nq, 0, none⟩) hnb (.int .i64 (hiW N))).setCell (p := ⟨nq, 1, none⟩) hnb (.int .u64 (loW N))
        go_wp2_with fail
        by_cases hI : I64 N
        · refine (rint_yes N hI _).mono ?_
          rintro e w4 ⟨rfl, b4⟩
          go_wp2
          go_ret2
          exact ⟨⟨fun _ => rfl, fun h => absurd hI h⟩, bstep bel b4⟩
        · refine (rint_no N ⟨by omega, by omega⟩ hI _).mono ?_
          rintro e w4 ⟨rfl, b4⟩
          go_wp2
          go_ret2
          exact ⟨⟨fun h => absurd h hI, fun _ => rfl⟩, bstep bel b4⟩
      · replace u1 := u1.out
        replace u2 := u2.out
        replace u3 := u3.out
        go_wp2_with fail
        refine (radd_one Q _).mono ?_
        rintro e w2 ⟨rfl, b2⟩
        rw [hq]
        have Cq0 := HQ.out.below b2
        clear c1 c2 c3 c4
        obtain ⟨_, c1, c2, c3, c4⟩ := id Cq0
        have Cq := Cq0.set (.int .i64 (hiW N)) (.int .u64 (loW N))
        have bel := ((bstep HB.out b2).setCell (p := ⟨nq, 0, none⟩) hnb (.int .i64 (hiW N))).setCell (p := ⟨nq, 1, none⟩) hnb (.int .u64 (loW N))
        go_wp2_with fail
        by_cases hI : I64 N
        · refine (rint_yes N hI _).mono ?_
          rintro e w4 ⟨rfl, b4⟩
          go_wp2
          go_ret2
          exact ⟨⟨fun _ => rfl, fun h => absurd hI h⟩, bstep bel b4⟩
        · refine (rint_no N ⟨by omega, by omega⟩ hI _).mono ?_
          rintro e w4 ⟨rfl, b4⟩
          go_wp2
          go_ret2
          exact ⟨⟨fun h => absurd h hI, fun _ => rfl⟩, bstep bel b4⟩
    · obtain ⟨k, rfl⟩ : ∃ k, n = k + 1 := ⟨n - 1, by omega⟩
      have ek : ((k + 1 : Nat) : Int) - 1 = (k : Int) := by omega
      rw [ek]
      clear ek hz
      obtain ⟨b, hb⟩ : ∃ b, b = X / 2 ^ k % 2 := ⟨_, rfl⟩
      have bb : 0 ≤ b ∧ b ≤ 1 := by omega
      have lw := HI.out.low; have hg := HI.out.high
      rw [← hb] at lw hg
      have ob := or_bit R b r0 (by omega) bb.1 bb.2
      obtain ⟨R', hR'⟩ : ∃ R', R' = 2 * R + b := ⟨_, rfl⟩
      rw [← hR'] at lw hg ob
      obtain ⟨o1, o2⟩ := or_one Q
      have O2 := Lib.hid o2
      have rb : 0 ≤ R' ∧ R' ≤ 18446744073709551615 := by omega
      obtain ⟨rb0, rb1⟩ := rb
      obtain ⟨p0, p1⟩ := loW_bd (Q + Q)
      have LW := Lib.hid lw; have HG := Lib.hid hg
      clear o2 lw hg hR'
      have step : Hid (bits .and .u64 (loW X / 2 ^ k) 1 = b) ∧ k < 64 ∨ Hid (bits .and .u64 (hiW X / 2 ^ (k - 64)) 1 = b) ∧ 64 ≤ k := by
        by_cases hk : k < 64
        · exact Or.inl ⟨Lib.hid (by rw [hb]; exact bit_lo X k hk), hk⟩
        · exact Or.inr ⟨Lib.hid (by rw [hb]; exact bit_hi X k (by omega) hX0 (by omega)), by omega⟩
      clear hb bb
      rcases step with ⟨sb, hk⟩ | ⟨sb, hk⟩
      all_goals
        replace sb := sb.out
        go_wp2_with fail
        refine (radd_any Q Q _).mono ?_
        rintro e w2 ⟨rfl, b2⟩
        have Cq2 := HQ.out.below b2
        have Cw2 := HW.out.below b2
        have bel2 := HB.out.trans (b2.mono HB.out.size)
        clear c1 c2 c3 c4 c5 c6 c7 c8
        obtain ⟨_, c1, c2, c3, c4⟩ := id Cq2
        by_cases hR : d ≤ R'
        · go_wp2
          go_roundw
          case rel => exact ⟨k, Q + Q + 1, R' - d, by omega, rfl, rfl, HG.out hR, by rw [O2.out]; exact (Cq2.set _ _).set1 _, (Cw2.far hne _ _).far1 hne _, ((bel2.setCell hnb _).setCell hnb _).setCell hnb _⟩
          case measure => simp [intOf]
        · go_wp2
          go_roundw
          case rel => exact ⟨k, Q + Q, R', by omega, rfl, rfl, LW.out (by omega), Cq2.set _ _, Cw2.far hne _ _, (bel2.setCell hnb _).setCell hnb _⟩
          case measure => simp [intOf]
set_option maxRecDepth 100000 in
set_option maxHeartbeats 2000000 in
theorem rquo_neg (x d : Int) (hx0 : x < 0) (hx1 : -170141183460469231731687303715884105726 < x) (d0 : 0 < d) (d1 : d ≤ 9223372036854775807) (w : World) :
    Calls Try.prog 25 #[.agg #[.int .i64 (hiW x), .int .u64 (loW x)], .int .i64 d] w fun e w' => ((I64 (-near (-x) d) → e = .returned (.tuple #[.int .i64 (-near (-x) d), .bool true])) ∧ (¬ I64 (-near (-x) d) → e = .returned (.tuple #[.int .i64 0, .bool false]))) ∧ Below w.heap.size w w' := by
  have hh : hiW x < 0 := by rw [hiW_of ⟨by omega, by omega⟩]; omega
  have b1 : decide (hiW x < 0) = true := by simpa using hh
  obtain ⟨X, hX⟩ : ∃ X, X = -x := ⟨_, rfl⟩
  rw [← hX]
  obtain ⟨N, hN⟩ : ∃ N, N = near X d := ⟨_, rfl⟩
  rw [← hN]
  have HN := Lib.hid hN; have HX := Lib.hid hX
  clear hN hX
  have b0 : decide (d ≤ 0) = false := by simp; omega
  have z0 : hiW 0 = 0 := by decide
  have z1 : loW 0 = 0 := by decide
  go_enter Try.func25, Try.ntmps25
  go_wp2_with fail
  have nx := fun w0 => rneg_any x w0
  rw [← HX.out] at nx
  refine (nx _).mono ?_
  rintro e w0 ⟨rfl, b0'⟩
  clear nx
  have Cw := ((Cell2.new w (.int .i64 (hiW x)) (.int .u64 (loW x)) 28).below b0')
  obtain ⟨_, k1, k2, k3, k4⟩ := id Cw
  have bel0 : Below w.heap.size w w0 := ((Below.refl _ _).alloc (Nat.le_refl _) _).trans (b0'.mono (by simp))
  go_wp2
  have s0 := Cw.1
  have Cw1 := (Cw.set (.int .i64 (hiW X)) (.int .u64 (loW X))).alloc (.cells #[.int .i64 0, .int .u64 0] 28)
  have Cq := Cell2.new ((w0.setCell ⟨w.heap.size, 0, none⟩ (.int .i64 (hiW X))).setCell ⟨w.heap.size, 1, none⟩ (.int .u64 (loW X))) (.int .i64 0) (.int .u64 0) 28
  have bel := ((bel0.setCell (p := ⟨w.heap.size, 0, none⟩) (Nat.le_refl _) (.int .i64 (hiW X))).setCell (p := ⟨w.heap.size, 1, none⟩) (Nat.le_refl _) (.int .u64 (loW X))).alloc (by simpa [World.setCell] using bel0.size) (.cells #[.int .i64 0, .int .u64 0] 28)
  have en : ((w0.setCell ⟨w.heap.size, 0, none⟩ (.int .i64 (hiW X))).setCell ⟨w.heap.size, 1, none⟩ (.int .u64 (loW X))).heap.size = w0.heap.size := by simp [World.setCell]
  rw [en] at Cq
  have hne : w0.heap.size ≠ w.heap.size := by omega
  have hnb : w.heap.size ≤ w0.heap.size := by omega
  clear en k1 k2 k3 k4 Cw b0' bel0 s0
  have Cw := Cw1
  clear Cw1
  generalize ((w0.setCell ⟨w.heap.size, 0, none⟩ (.int .i64 (hiW X))).setCell ⟨w.heap.size, 1, none⟩ (.int .u64 (loW X))).alloc (.cells #[.int .i64 0, .int .u64 0] 28) = W at *
  generalize w0.heap.size = nq at *
  have hX0 : 0 ≤ X := by rw [HX.out]; omega
  have hX1 : X < 170141183460469231731687303715884105726 := by rw [HX.out]; omega
  have SX := QInv.start X d hX0 (by omega) d0
  have hhX : 0 ≤ hiW X := by rw [hiW_of ⟨by omega, by omega⟩]; omega
  obtain ⟨l0, l1⟩ := loW_bd X
  obtain ⟨g0, g1⟩ := hiW_bd X
  go_loopw [8, 9, 10] (fun r i _ wr => QL w nq X d r i wr) (fun _ i _ _ => (intOf i + 1).toNat)
  case atStart => exact ⟨128, 0, 0, Nat.le_refl _, rfl, rfl, SX, by rw [z0, z1]; exact Cq, Cw, bel⟩
  case round =>
    clear Cw Cq bel SX
    obtain ⟨n, Q, R, hn, rfl, rfl, hinv, Cq, Cw, bel⟩ := hrel
    have HI := Lib.hid hinv; have HQ := Lib.hid Cq; have HW := Lib.hid Cw; have HB := Lib.hid bel
    obtain ⟨_, r0, r1, q0⟩ := hinv
    obtain ⟨_, c1, c2, c3, c4⟩ := Cq
    obtain ⟨_, c5, c6, c7, c8⟩ := Cw
    clear bel
    by_cases hz : n = 0
    · subst hz
      have ek : ((0 : Nat) : Int) - 1 = -1 := by decide
      rw [ek]
      clear ek
      obtain ⟨dq, dr⟩ := HI.out.done
      obtain ⟨f1, f2, f3, f4⟩ := near_cases X d Q R dq dr
      have nb := near_bd X d
      have qle : X / d ≤ X := Int.ediv_le_self d hX0
      have hN := HN.out
      rw [← hN] at f1 f2 f3 f4 nb
      have N0 : 0 ≤ N := by omega
      have N1 : N < 170141183460469231731687303715884105727 := by omega
      have key : (Hid (decide (d - R < R) = false) ∧ Hid ((R == d - R) = false) ∧ Hid True ∧ N = Q) ∨ (Hid (decide (d - R < R) = false) ∧ Hid ((R == d - R) = true) ∧ Hid ((bits .and .u64 (loW Q) 1 == 1) = false) ∧ N = Q) ∨ (Hid (decide (d - R < R) = true) ∧ Hid True ∧ Hid True ∧ Q + 1 = N) ∨ (Hid (decide (d - R < R) = false) ∧ Hid ((R == d - R) = true) ∧ Hid ((bits .and .u64 (loW Q) 1 == 1) = true) ∧ Q + 1 = N) := by
        obtain ⟨m0, m1⟩ := loW_bd Q
        have e1 : bits .and .u64 (loW Q) 1 = Q % 2 := by rw [and_one_u64 _ m0 m1]; unfold loW; omega
        rcases Int.lt_trichotomy (2 * R) d with h | h | h
        · exact Or.inl ⟨Lib.hid (by simp; omega), Lib.hid (by simp; omega), Lib.hid trivial, f1 h⟩
        · by_cases g : Q % 2 = 1
          · exact Or.inr (Or.inr (Or.inr ⟨Lib.hid (by simp; omega), Lib.hid (by simp; omega), Lib.hid (by rw [e1]; simpa using g), (f3 h g).symm⟩))
          · exact Or.inr (Or.inl ⟨Lib.hid (by simp; omega), Lib.hid (by simp; omega), Lib.hid (by rw [e1]; simpa using g), f4 h g⟩)
        · exact Or.inr (Or.inr (Or.inl ⟨Lib.hid (by simp; omega), Lib.hid trivial, Lib.hid trivial, (f2 h).symm⟩))
      clear f1 f2 f3 f4 dq dr hN nb qle c5 c6 c7 c8
      rcases key with ⟨u1, u2, u3, hq⟩ | ⟨u1, u2, u3, hq⟩ | ⟨u1, u2, u3, hq⟩ | ⟨u1, u2, u3, hq⟩
      · replace u1 := u1.out
        replace u2 := u2.out
        replace u3 := u3.out
        subst hq
        have Cq := HQ.out
        have bel := HB.out
        go_wp2_with fail
        refine (rneg_any N _).mono ?_
        rintro e w3 ⟨rfl, b3⟩
        replace Cq := Cq.below b3
        replace bel := bstep bel b3
        obtain ⟨_, c1, c2, c3, c4⟩ := id Cq
        go_wp2_with fail
        replace bel := (bel.setCell (p := ⟨nq, 0, none⟩) hnb (.int .i64 (hiW (-N)))).setCell (p := ⟨nq, 1, none⟩) hnb (.int .u64 (loW (-N)))
        by_cases hI : I64 (-N)
        · refine (rint_yes (-N) hI _).mono ?_
          rintro e w4 ⟨rfl, b4⟩
          go_wp2
          go_ret2
          exact ⟨⟨fun _ => rfl, fun h => absurd hI h⟩, bstep bel b4⟩
        · refine (rint_no (-N) ⟨by omega, by omega⟩ hI _).mono ?_
          rintro e w4 ⟨rfl, b4⟩
          go_wp2
          go_ret2
          exact ⟨⟨fun h => absurd h hI, fun _ => rfl⟩, bstep bel b4⟩
      · replace u1 := u1.out
        replace u2 := u2.out
        replace u3 := u3.out
        subst hq
        have Cq := HQ.out
        have bel := HB.out
        go_wp2_with fail
        refine (rneg_any N _).mono ?_
        rintro e w3 ⟨rfl, b3⟩
        replace Cq := Cq.below b3
        replace bel := bstep bel b3
        obtain ⟨_, c1, c2, c3, c4⟩ := id Cq
        go_wp2_with fail
        replace bel := (bel.setCell (p := ⟨nq, 0, none⟩) hnb (.int .i64 (hiW (-N)))).setCell (p := ⟨nq, 1, none⟩) hnb (.int .u64 (loW (-N)))
        by_cases hI : I64 (-N)
        · refine (rint_yes (-N) hI _).mono ?_
          rintro e w4 ⟨rfl, b4⟩
          go_wp2
          go_ret2
          exact ⟨⟨fun _ => rfl, fun h => absurd hI h⟩, bstep bel b4⟩
        · refine (rint_no (-N) ⟨by omega, by omega⟩ hI _).mono ?_
          rintro e w4 ⟨rfl, b4⟩
          go_wp2
          go_ret2
          exact ⟨⟨fun h => absurd h hI, fun _ => rfl⟩, bstep bel b4⟩
      · replace u1 := u1.out
        replace u2 := u2.out
        replace u3 := u3.out
        go_wp2_with fail
        refine (radd_one Q _).mono ?_
        rintro e w2 ⟨rfl, b2⟩
        rw [hq]
        have Cq0 := HQ.out.below b2
        clear c1 c2 c3 c4
        obtain ⟨_, c1, c2, c3, c4⟩ := id Cq0
        have Cq := Cq0.set (.int .i64 (hiW N)) (.int .u64 (loW N))
        have bel := ((bstep HB.out b2).setCell (p := ⟨nq, 0, none⟩) hnb (.int .i64 (hiW N))).setCell (p := ⟨nq, 1, none⟩) hnb (.int .u64 (loW N))
        go_wp2_with fail
        refine (rneg_any N _).mono ?_
        rintro e w3 ⟨rfl, b3⟩
        replace Cq := Cq.below b3
        replace bel := bstep bel b3
        obtain ⟨_, c1, c2, c3, c4⟩ := id Cq
        go_wp2_with fail
        replace bel := (bel.setCell (p := ⟨nq, 0, none⟩) hnb (.int .i64 (hiW (-N)))).setCell (p := ⟨nq, 1, none⟩) hnb (.int .u64 (loW (-N)))
        by_cases hI : I64 (-N)
        · refine (rint_yes (-N) hI _).mono ?_
          rintro e w4 ⟨rfl, b4⟩
          go_wp2
          go_ret2
          exact ⟨⟨fun _ => rfl, fun h => absurd hI h⟩, bstep bel b4⟩
        · refine (rint_no (-N) ⟨by omega, by omega⟩ hI _).mono ?_
          rintro e w4 ⟨rfl, b4⟩
          go_wp2
          go_ret2
          exact ⟨⟨fun h => absurd h hI, fun _ => rfl⟩, bstep bel b4⟩
      · replace u1 := u1.out
        replace u2 := u2.out
        replace u3 := u3.out
        go_wp2_with fail
        refine (radd_one Q _).mono ?_
        rintro e w2 ⟨rfl, b2⟩
        rw [hq]
        have Cq0 := HQ.out.below b2
        clear c1 c2 c3 c4
        obtain ⟨_, c1, c2, c3, c4⟩ := id Cq0
        have Cq := Cq0.set (.int .i64 (hiW N)) (.int .u64 (loW N))
        have bel := ((bstep HB.out b2).setCell (p := ⟨nq, 0, none⟩) hnb (.int .i64 (hiW N))).setCell (p := ⟨nq, 1, none⟩) hnb (.int .u64 (loW N))
        go_wp2_with fail
        refine (rneg_any N _).mono ?_
        rintro e w3 ⟨rfl, b3⟩
        replace Cq := Cq.below b3
        replace bel := bstep bel b3
        obtain ⟨_, c1, c2, c3, c4⟩ := id Cq
        go_wp2_with fail
        replace bel := (bel.setCell (p := ⟨nq, 0, none⟩) hnb (.int .i64 (hiW (-N)))).setCell (p := ⟨nq, 1, none⟩) hnb (.int .u64 (loW (-N)))
        by_cases hI : I64 (-N)
        · refine (rint_yes (-N) hI _).mono ?_
          rintro e w4 ⟨rfl, b4⟩
          go_wp2
          go_ret2
          exact ⟨⟨fun _ => rfl, fun h => absurd hI h⟩, bstep bel b4⟩
        · refine (rint_no (-N) ⟨by omega, by omega⟩ hI _).mono ?_
          rintro e w4 ⟨rfl, b4⟩
          go_wp2
          go_ret2
          exact ⟨⟨fun h => absurd h hI, fun _ => rfl⟩, bstep bel b4⟩
    · obtain ⟨k, rfl⟩ : ∃ k, n = k + 1 := ⟨n - 1, by omega⟩
      have ek : ((k + 1 : Nat) : Int) - 1 = (k : Int) := by omega
      rw [ek]
      clear ek hz
      obtain ⟨b, hb⟩ : ∃ b, b = X / 2 ^ k % 2 := ⟨_, rfl⟩
      have bb : 0 ≤ b ∧ b ≤ 1 := by omega
      have lw := HI.out.low; have hg := HI.out.high
      rw [← hb] at lw hg
      have ob := or_bit R b r0 (by omega) bb.1 bb.2
      obtain ⟨R', hR'⟩ : ∃ R', R' = 2 * R + b := ⟨_, rfl⟩
      rw [← hR'] at lw hg ob
      obtain ⟨o1, o2⟩ := or_one Q
      have O2 := Lib.hid o2
      have rb : 0 ≤ R' ∧ R' ≤ 18446744073709551615 := by omega
      obtain ⟨rb0, rb1⟩ := rb
      obtain ⟨p0, p1⟩ := loW_bd (Q + Q)
      have LW := Lib.hid lw; have HG := Lib.hid hg
      clear o2 lw hg hR'
      have step : Hid (bits .and .u64 (loW X / 2 ^ k) 1 = b) ∧ k < 64 ∨ Hid (bits .and .u64 (hiW X / 2 ^ (k - 64)) 1 = b) ∧ 64 ≤ k := by
        by_cases hk : k < 64
        · exact Or.inl ⟨Lib.hid (by rw [hb]; exact bit_lo X k hk), hk⟩
        · exact Or.inr ⟨Lib.hid (by rw [hb]; exact bit_hi X k (by omega) hX0 (by omega)), by omega⟩
      clear hb bb
      rcases step with ⟨sb, hk⟩ | ⟨sb, hk⟩
      all_goals
        replace sb := sb.out
        go_wp2_with fail
        refine (radd_any Q Q _).mono ?_
        rintro e w2 ⟨rfl, b2⟩
        have Cq2 := HQ.out.below b2
        have Cw2 := HW.out.below b2
        have bel2 := HB.out.trans (b2.mono HB.out.size)
        clear c1 c2 c3 c4 c5 c6 c7 c8
        obtain ⟨_, c1, c2, c3, c4⟩ := id Cq2
        by_cases hR : d ≤ R'
        · go_wp2
          go_roundw
          case rel => exact ⟨k, Q + Q + 1, R' - d, by omega, rfl, rfl, HG.out hR, by rw [O2.out]; exact (Cq2.set _ _).set1 _, (Cw2.far hne _ _).far1 hne _, ((bel2.setCell hnb _).setCell hnb _).setCell hnb _⟩
          case measure => simp [intOf]
        · go_wp2
          go_roundw
          case rel => exact ⟨k, Q + Q, R', by omega, rfl, rfl, LW.out (by omega), Cq2.set _ _, Cw2.far hne _ _, (bel2.setCell hnb _).setCell hnb _⟩
          case measure => simp [intOf]
end Go.Proofs.Ytddlannblopbeaa
