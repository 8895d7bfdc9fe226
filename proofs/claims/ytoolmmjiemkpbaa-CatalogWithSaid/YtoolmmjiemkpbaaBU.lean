/-
  The contracts of package burst: Sum returns the sum of the bytes; Close returns new memory that holds the bytes and their sum's four bytes behind them; Good says whether bytes are closed; nothing that was in memory turns.
-/
import Derived.Test.YtoolmmjiemkpbaaWMake
import Derived.Test.YtoolmmjiemkpbaaWCopy
import Derived.LoopN
import Derived.WalkSpells
import Derived.WalkLawsBesides
import Derived.Deep.QuietTactic
import Derived.BigQuiet
namespace Go.Proofs.Ytoolmmjiemkpbaa
set_option linter.unusedVariables false
set_option linter.unusedSimpArgs false
open Go.RowKit

set_option maxHeartbeats 400000 in
theorem divide_any (E : B32) (w : World) :
    Calls Try.prog 119 #[.int .u32 (wrd E)] w fun e w' => e = .returned (.int .u32 (wrd (csteps 8 E))) ∧ w = w' := by
  obtain ⟨g0, g1⟩ := u32_bd E
  go_enter Try.func119, Try.ntmps119
  go_wp2
  go_loop [0, 3, 4] (fun c _ i => ∃ j : Nat, j ≤ 8 ∧ i = .int .i64 j ∧ c = .int .u32 (wrd (csteps j E))) (fun _ _ i => 8 - (intOf i).toNat)
  case atStart => exact ⟨0, Nat.zero_le _, rfl, rfl⟩
  case round =>
    obtain ⟨j, hj, rfl, rfl⟩ := hrel
    by_cases hj8 : j < 8
    · have hs := csteps_succ j E
      have HS := Lib.hid hs
      clear hs
      generalize csteps j E = F at *
      obtain ⟨f0, f1⟩ := u32_bd F
      by_cases hbit : bits .and .u32 (wrd F) 1 = 1
      · have hq := cstep_one hbit
        have b1 : (bits .and .u32 (wrd F) 1 == 1) = true := by simpa using hbit
        obtain ⟨q0, q1⟩ := u32_bd (cstep F)
        go_wp2
        go_round
        case rel => exact ⟨j + 1, by omega, by go_num, by rw [HS.out]⟩
        case measure => simp [intOf]; omega
      · have hq := cstep_nil hbit
        have b1 : (bits .and .u32 (wrd F) 1 == 1) = false := by simpa using hbit
        obtain ⟨q0, q1⟩ := u32_bd (cstep F)
        go_wp2
        go_round
        case rel => exact ⟨j + 1, by omega, by go_num, by rw [HS.out]⟩
        case measure => simp [intOf]; omega
    · obtain rfl : j = 8 := by omega
      go_wp2
      go_ret
      exact ⟨rfl, rfl⟩

set_option maxHeartbeats 400000 in
theorem bsum_any (B : Nat) (A : Option Addr) (cap : Nat) (xs : List Int) (hl : xs.length ≤ maxLen) (w : World) (hr : RdB w B A xs) :
    Calls Try.prog 114 #[.slice A xs.length cap] w fun e w' => e = .returned (.int .u32 (wrd (crc xs))) ∧ w = w' := by
  unfold maxLen at hl
  obtain ⟨R, hR⟩ : ∃ R, crc xs = R := ⟨_, rfl⟩
  rw [hR]
  have HC := Lib.hid hR
  clear hR
  have HR := Lib.hid hr
  clear hr
  go_enter Try.func114, Try.ntmps114
  go_wp2
  go_loop [3, 5, 8] (fun c _ i => ∃ k : Nat, k ≤ xs.length ∧ i = .int .i64 k ∧ c = .int .u32 (wrd (feeds ones (xs.take k)))) (fun _ _ i => xs.length - (intOf i).toNat)
  case atStart => exact ⟨0, Nat.zero_le _, rfl, by rw [List.take_zero, feeds_nil]; rfl⟩
  case round =>
    obtain ⟨k, hk, rfl, rfl⟩ := hrel
    by_cases hlt : k < xs.length
    · obtain ⟨bb, oo, rfl, hb, hc, hu⟩ := HR.out k hlt
      have hf : feeds ones (xs.take (k + 1)) = csteps 8 (feeds ones (xs.take k) ^^^ byteW (xs.getD k 0)) := by
        rw [List.take_succ_eq_append_getElem hlt, feeds_snoc, List.getD_eq_getElem?_getD, List.getElem?_eq_getElem hlt]; rfl
      have e1 : bits .xor .u32 (wrd (feeds ones (xs.take k))) (xs.getD k 0) = wrd (feeds ones (xs.take k) ^^^ byteW (xs.getD k 0)) := by
        rw [← xor_u32, ← byte_u32 hu]
      have HF := Lib.hid hf
      clear hf
      obtain ⟨u0, u1⟩ := id hu
      generalize feeds ones (xs.take k) ^^^ byteW (xs.getD k 0) = E at *
      generalize feeds ones (xs.take k) = D at *
      generalize xs.getD k 0 = x at *
      obtain ⟨d0, d1⟩ := u32_bd D
      obtain ⟨g0, g1⟩ := u32_bd E
      go_wp2_with fail
      refine (divide_any E w).mono ?_
      rintro e w1 ⟨rfl, rfl⟩
      obtain ⟨q0, q1⟩ := u32_bd (csteps 8 E)
      go_wp2
      go_round
      case rel => exact ⟨k + 1, by omega, by go_num, by rw [HF.out]⟩
      case measure => simp [intOf]; omega
    · obtain rfl : k = xs.length := by omega
      rw [List.take_length]
      have e2 := not_u32' (feeds ones xs)
      rw [show ones ^^^ feeds ones xs = R from HC.out] at e2
      clear HC
      generalize feeds ones xs = D at *
      obtain ⟨d0, d1⟩ := u32_bd D
      go_wp2
      go_ret
      exact ⟨rfl, rfl⟩
theorem sum_any (N : Nat) (A : Option Addr) (n cap : Nat) (xs : List Int) (hl : xs.length = n) (hm : n ≤ maxLen) (w : World) (hr : RdB w N A xs) (hN : N ≤ w.heap.size) :
    Calls Try.prog 114 #[.slice A n cap] w fun e w' => e = .returned (.int .u32 (wrd (crc xs))) ∧ Below w.heap.size w w' := by
  subst hl
  refine (bsum_any N A cap xs hm w hr).mono ?_
  rintro e w' ⟨rfl, rfl⟩
  exact ⟨rfl, Below.refl _ _⟩

theorem sumByte_any (X : B32) (i : Nat) (hi : i < 4) (w : World) :
    Calls Try.prog 115 #[.int .u32 (wrd X), .int .i64 i] w fun e w' => e = .returned (.int .u8 (byteOf X i)) ∧ w' = w := by
  obtain ⟨g0, g1⟩ := u32_bd X
  obtain ⟨d0, d1, d2, d3, hd, ⟨⟨u0, v0⟩, ⟨u1, v1⟩, ⟨u2, v2⟩, u3, v3⟩, r0, r1, r2, r3⟩ := bytes_of X
  unfold le4 at hd
  injection hd with h0 hd
  injection hd with h1 hd
  injection hd with h2 hd
  injection hd with h3 hd
  go_enter Try.func115, Try.ntmps115
  rcases i with _ | _ | _ | _ | i
  · rw [h0]
    go_wp2
    go_ret
    refine ⟨?_, rfl⟩
    rfl
  · rw [h1]
    go_wp2
    go_ret
    refine ⟨?_, rfl⟩
    rfl
  · rw [h2]
    go_wp2
    go_ret
    refine ⟨?_, rfl⟩
    rfl
  · rw [h3]
    go_wp2
    go_ret
    refine ⟨?_, rfl⟩
    rfl
  · omega

/-- What Close leaves. -/
def Closed (w : World) (n : Nat) (xs : List Int) (e : Ending) (w' : World) : Prop :=
  ∃ g c, e = .returned (.slice (some ⟨g, 0, none⟩) (n + 4) c) ∧ Own w' w.heap.size g c (xs ++ le4 (crc xs)) ∧ Below w.heap.size w w'
/-- What is behind so many bytes of the sum. -/
def CloseI (w : World) (g n : Nat) (xs : List Int) (D : B32) (j : Nat) (wr : World) : Prop :=
  ∃ us, Own wr w.heap.size g (n + 4) us ∧ us.length = n + 4 ∧ us.take (n + j) = xs ++ (le4 D).take j ∧ Below w.heap.size w wr
theorem le4_next (D : B32) (j : Nat) (hj : j < 4) : (le4 D).take (j + 1) = (le4 D).take j ++ [byteOf D j] := by
  rcases j with _ | _ | _ | _ | j
  · rfl
  · rfl
  · rfl
  · rfl
  · omega
set_option maxHeartbeats 400000 in
theorem close_any (N : Nat) (A : Option Addr) (n cap : Nat) (xs : List Int) (hl : xs.length = n) (hm : n ≤ 1000) (w : World) (hr : RdB w N A xs) (hN : N ≤ w.heap.size) (hA : A = none → cap = 0) :
    Calls Try.prog 100 #[.slice A n cap] w (Closed w n xs) := by
  have sm := fun w0 hr hN => sum_any N A n cap xs hl (by unfold maxLen; omega) w0 hr hN
  have HL := Lib.hid hl; have HR := Lib.hid hr; have SM := Lib.hid sm; have HA := Lib.hid hA
  clear hl hr sm hA
  go_enter Try.func100, Try.ntmps100
  go_wp2_with (with_reducible refine make_own _ rfl _ _ rfl w.heap.size (n + 4) rfl rfl ?c1 ?c2 ?_)
  case c1 => omega
  case c2 => exact Nat.le_refl _
  intro w1 o1 b1
  have O1 := Lib.hid o1
  clear o1
  go_wp2_with (with_reducible refine copy_rd rfl _ _ rfl w.heap.size w.heap.size (n + 4) (n + 4) (zeros (n + 4)) ?d1 rfl O1.out N A n cap xs HL.out rfl ?d2 ?d3 w b1 ?d4 ?_)
  case d1 => exact zeros_length _
  case d2 => exact HR.out.below (b1.mono (by exact hN))
  case d3 => omega
  case d4 => exact Nat.le_refl _
  intro w2 o2 b2
  have l2 : (xs ++ (zeros (n + 4)).drop n).length = n + 4 := by rw [List.length_append, List.length_drop, zeros_length, HL.out]; omega
  have t2 : (xs ++ (zeros (n + 4)).drop n).take n = xs := by rw [List.take_append_of_le_length (by rw [HL.out]; exact Nat.le_refl _), List.take_of_length_le (by rw [HL.out]; exact Nat.le_refl _)]
  generalize xs ++ (zeros (n + 4)).drop n = us0 at *
  obtain ⟨g, hg⟩ : ∃ g, g = w.heap.size := ⟨_, rfl⟩
  have hgw : w.heap.size ≤ g := by omega
  have HG := Lib.hid hg; have O2 := Lib.hid o2; have L2 := Lib.hid l2; have T2 := Lib.hid t2
  clear o2 l2 t2 O1 b1 hg
  go_wp2_with fail
  refine (SM.out w2 (HR.out.below (b2.mono hN)) (by have := b2.size; omega)).mono ?_
  rintro e w3 ⟨rfl, b3⟩
  have O3 := Lib.hid (O2.out.below b3)
  have b4 := b2.trans (b3.mono b2.size)
  obtain ⟨D, hD⟩ : ∃ D, D = crc xs := ⟨_, rfl⟩
  rw [← hD]
  have HD := Lib.hid hD
  obtain ⟨q0, q1⟩ := u32_bd D
  clear hD O2 b2 b3
  go_wp2
  rw [← HG.out]
  go_loopw [5, 15] (fun _ iv wr => ∃ j : Nat, j ≤ 4 ∧ iv = .int .i64 (j : Int) ∧ CloseI w g n xs D j wr) (fun _ iv _ => 4 - (intOf iv).toNat)
  case atStart => exact ⟨0, Nat.zero_le _, rfl, us0, by have := O3.out; rw [← HG.out] at this; rw [← HG.out]; exact this, L2.out, by rw [Nat.add_zero, T2.out]; simp, b4⟩
  case round =>
    obtain ⟨j, hj, rfl, us, ou, hul, htk, bel⟩ := hrel
    by_cases hlt : j < 4
    · obtain ⟨s, hs⟩ : ∃ s : Nat, s = n + j := ⟨_, rfl⟩
      have e1 : IntKind.i64.wrap ((n : Int) + (j : Int)) = (s : Int) := by rw [IntKind.wrap_i64]; omega
      have yu := ou.cell (k := s) (by omega)
      have fu := ou.frozen s
      have fin : (us.set s (byteOf D j)).take (n + (j + 1)) = xs ++ (le4 D).take (j + 1) := by
        rw [← Nat.add_assoc, ← hs, take_set_succ us s _ (by omega), hs, htk, List.append_assoc, le4_next D j hlt]
      have O5 := Lib.hid (ou.set s (byteOf D j) (byteOf_U8 D j))
      have L5 : Hid ((us.set s (byteOf D j)).length = n + 4) := Lib.hid (by rw [List.length_set]; exact hul)
      have FIN := Lib.hid fin
      have i1 : (0 : Int) ≤ (s : Int) := by omega
      have i2 : (s : Int) < (n : Int) + 4 := by omega
      have i3 : s < n + 4 := by omega
      have sb := sumByte_any D j hlt
      obtain ⟨u0, u1⟩ := byteOf_U8 D j
      have SB := Lib.hid sb; have HS := Lib.hid hs
      clear ou hul htk fin hs sb
      generalize us.getD s 0 = v at *
      generalize byteOf D j = d at *
      go_wp2_with fail
      refine (SB.out _).mono ?_
      rintro e w5 ⟨rfl, rfl⟩
      go_wp2
      go_roundw
      case rel => exact ⟨j + 1, by omega, by go_num, _, O5.out, L5.out, FIN.out, bel.setCell hgw _⟩
      case measure => simp [intOf]; omega
    · obtain rfl : j = 4 := by omega
      rw [List.take_of_length_le (by omega)] at htk
      have ho : Own wr w.heap.size g (n + 4) (xs ++ le4 (crc xs)) := by rw [← HD.out, show le4 D = (le4 D).take 4 from rfl, ← htk]; exact ou
      have HO := Lib.hid ho
      clear ou hul htk ho
      go_wp2
      go_ret
      exact ⟨g, _, rfl, HO.out, bel⟩

set_option maxHeartbeats 400000 in
theorem good_any (N : Nat) (A : Option Addr) (n cap : Nat) (xs : List Int) (hl : xs.length = n) (hm : n ≤ 1000) (w : World) (hr : RdB w N A xs) (hN : N ≤ w.heap.size) (hx : xs.length ≤ cap) :
    Calls Try.prog 102 #[.slice A n cap] w fun e w' => e = .returned (.bool (goodB xs)) ∧ Below w.heap.size w w' := by
  have hc : n ≤ cap := by rw [← hl]; exact hx
  have HR := Lib.hid hr; have HL := Lib.hid hl
  clear hr hl hx
  go_enter Try.func102, Try.ntmps102
  by_cases h4 : 4 ≤ n
  · obtain ⟨m, hmn⟩ : ∃ m : Nat, n = m + 4 := ⟨n - 4, by omega⟩
    subst hmn
    have gf := good_four xs m HL.out (fun k hk => by obtain ⟨_, _, _, _, _, hu⟩ := HR.out k hk; exact hu)
    have sm := fun c w0 hr hN => sum_any N A m c (xs.take m) (by rw [List.length_take, HL.out]; omega) (by unfold maxLen; omega) w0 hr hN
    have SM := Lib.hid sm
    have GF := Lib.hid gf
    clear sm gf
    have e1 : ((m : Int) + 4) - 4 = (m : Int) := by omega
    have i1 : (0 : Int) ≤ (m : Int) := by omega
    have i2 : (m : Int) ≤ (cap : Int) := by omega
    go_wp2_with fail
    refine (SM.out _ w (HR.out.take m) hN).mono ?_
    rintro e w1 ⟨rfl, b1⟩
    obtain ⟨D, hD⟩ : ∃ D, D = crc (xs.take m) := ⟨_, rfl⟩
    rw [← hD]
    have HD := Lib.hid hD
    obtain ⟨q0, q1⟩ := u32_bd D
    clear hD
    go_wp2
    go_loopw [5, 15] (fun _ iv wr => ∃ j : Nat, j ≤ 4 ∧ iv = .int .i64 (j : Int) ∧ (∀ i, i < j → xs.getD (m + i) 0 = byteOf D i) ∧ Below w.heap.size w wr) (fun _ iv _ => 4 - (intOf iv).toNat)
    case atStart => exact ⟨0, Nat.zero_le _, rfl, fun i hi => by omega, b1⟩
    case round =>
      obtain ⟨j, hj, rfl, hall, bel⟩ := hrel
      have HALL := Lib.hid hall
      clear hall
      by_cases hlt : j < 4
      · obtain ⟨bb, oo, rfl, hb, hcell, hu⟩ := HR.out (m + j) (by rw [HL.out]; omega)
        have z1 : wr.cell? ⟨bb, oo + (m + j), none⟩ = some (.int .u8 (xs.getD (m + j) 0)) := by rw [bel.cell (p := ⟨bb, oo + (m + j), none⟩) (Nat.lt_of_lt_of_le hb hN)]; exact hcell
        clear hcell
        have sb := sumByte_any D j hlt
        have SB := Lib.hid sb
        clear sb
        obtain ⟨s, hs⟩ : ∃ s : Nat, s = m + j := ⟨_, rfl⟩
        rw [← hs] at z1 hu
        have e2 : IntKind.i64.wrap ((m : Int) + (j : Int)) = (s : Int) := by rw [IntKind.wrap_i64]; omega
        have i3 : (0 : Int) ≤ (s : Int) := by omega
        have i4 : (s : Int) < (m : Int) + 4 := by omega
        have i5 : s < m + 4 := by omega
        obtain ⟨u0, u1⟩ := byteOf_U8 D j
        obtain ⟨u2, u3⟩ := id hu
        by_cases heq : xs.getD s 0 = byteOf D j
        · have hnext : ∀ i, i < j + 1 → xs.getD (m + i) 0 = byteOf D i := fun i hi => by
            by_cases hij : i = j
            · rw [hij, ← hs]; exact heq
            · exact HALL.out i (by omega)
          have HE := Lib.hid hnext
          clear hnext
          rw [heq] at z1
          have HS := Lib.hid hs
          clear heq hs hu u2 u3
          generalize byteOf D j = d at *
          go_wp2
          go_quiet (exact Calls.quiet_of_same (SB.out _))
          go_wp2
          go_roundw
          case rel => exact ⟨j + 1, by omega, by go_num, HE.out, below_drewN bel _⟩
          case measure => simp [intOf]; omega
        · have hg : goodB xs = false := by
            cases hgb : goodB xs
            · rfl
            · exact absurd (by rw [hs, HD.out]; exact GF.out.1 hgb j hlt) heq
          have HG := Lib.hid hg
          have t1 : (xs.getD s 0 != byteOf D j) = true := by simpa using heq
          have HS := Lib.hid hs
          clear hg heq hs
          generalize byteOf D j = d at *
          generalize xs.getD s 0 = x at *
          go_wp2
          go_quiet (exact Calls.quiet_of_same (SB.out _))
          go_wp2
          go_ret
          exact ⟨by rw [HG.out]; rfl, below_drewN bel _⟩
      · obtain rfl : j = 4 := by omega
        have hg : goodB xs = true := GF.out.2 (by rw [← HD.out]; exact HALL.out)
        have HG := Lib.hid hg
        clear hg
        go_wp2
        go_ret
        exact ⟨by rw [HG.out]; rfl, bel⟩
  · have hg : goodB xs = false := by unfold goodB; rw [HL.out]; simp [h4]
    rw [hg]
    have e1 : decide ((n : Int) - 4 < 0) = true := by rw [decide_eq_true_eq]; omega
    go_wp2
    go_ret
    exact ⟨rfl, Below.refl _ _⟩
end Go.Proofs.Ytoolmmjiemkpbaa
