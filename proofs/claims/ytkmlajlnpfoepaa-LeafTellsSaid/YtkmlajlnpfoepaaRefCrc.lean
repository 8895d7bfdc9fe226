/-
  The contract of the document's own Crc (sheafref1): it returns the sum of the bytes, for every slice of bytes; nothing in memory turns.
-/
import Derived.Test.YtkmlajlnpfoepaaCrcW
import Derived.LoopN
namespace Go.Proofs.Ytkmlajlnpfoepaa
set_option linter.unusedVariables false
set_option linter.unusedSimpArgs false
open Go.RowKit

set_option maxHeartbeats 400000 in
theorem rcrc_any (B : Nat) (A : Option Addr) (cap : Nat) (xs : List Int) (hl : xs.length ≤ maxLen) (w : World) (hr : RdB w B A xs) :
    Calls Try.prog 22 #[.slice A xs.length cap] w fun e w' => e = .returned (.int .u32 (wrd (crc xs))) ∧ w = w' := by
  unfold maxLen at hl
  obtain ⟨R, hR⟩ : ∃ R, crc xs = R := ⟨_, rfl⟩
  rw [hR]
  have HC := Lib.hid hR
  clear hR
  have HR := Lib.hid hr
  clear hr
  go_enter Try.func22, Try.ntmps22
  go_wp2
  go_loop [3, 5, 8] (fun c _ i => ∃ k : Nat, k ≤ xs.length ∧ i = .int .i64 k ∧ c = .int .u32 (wrd (feeds ones (xs.take k)))) (fun _ _ i => xs.length - (intOf i).toNat)
  case atStart => exact ⟨0, Nat.zero_le _, rfl, by rw [List.take_zero, feeds_nil]; rfl⟩
  case round =>
    obtain ⟨k, hk, rfl, rfl⟩ := hrel
    by_cases hlt : k < xs.length
    · obtain ⟨bb, oo, rfl, hb, hc, hu⟩ := HR.out k hlt
      have hf : feeds ones (xs.take (k + 1)) = csteps 8 (feeds ones (xs.take k) ^^^ byteW (xs.getD k 0)) := by
        rw [List.take_succ_eq_append_getElem hlt, feeds_snoc, List.getD_eq_getElem?_getD, List.getElem?_eq_getElem hlt]; rfl
      have e1 : bits .xor .u32 (wrd (feeds ones (xs.take k))) (xs.getD k 0) = wrd (feeds ones (xs.take k) ^^^ byteW (xs.getD k 0)) := by
        rw [← xor_u32, ← byte_u32 hu]
      have HF := Lib.hid hf
      clear hf
      obtain ⟨u0, u1⟩ := id hu
      generalize feeds ones (xs.take k) ^^^ byteW (xs.getD k 0) = E at *
      generalize feeds ones (xs.take k) = D at *
      generalize xs.getD k 0 = x at *
      obtain ⟨d0, d1⟩ := u32_bd D
      obtain ⟨g0, g1⟩ := u32_bd E
      go_wp2
      clear e1
      go_loop [3, 16] (fun c i => ∃ j : Nat, j ≤ 8 ∧ i = .int .i64 j ∧ c = .int .u32 (wrd (csteps j E))) (fun _ i => 8 - (intOf i).toNat)
      case atStart => exact ⟨0, Nat.zero_le _, rfl, rfl⟩
      case round =>
        obtain ⟨j, hj, rfl, rfl⟩ := hrel
        by_cases hj8 : j < 8
        · have hs := csteps_succ j E
          have HS := Lib.hid hs
          clear hs
          generalize csteps j E = F at *
          obtain ⟨f0, f1⟩ := u32_bd F
          by_cases hbit : bits .and .u32 (wrd F) 1 = 1
          · have hq := cstep_one hbit
            have b1 : (bits .and .u32 (wrd F) 1 == 1) = true := by simpa using hbit
            obtain ⟨q0, q1⟩ := u32_bd (cstep F)
            go_wp2
            go_round
            case rel => exact ⟨j + 1, by omega, by go_num, by rw [HS.out]⟩
            case measure => simp [intOf]; omega
          · have hq := cstep_nil hbit
            have b1 : (bits .and .u32 (wrd F) 1 == 1) = false := by simpa using hbit
            obtain ⟨q0, q1⟩ := u32_bd (cstep F)
            go_wp2
            go_round
            case rel => exact ⟨j + 1, by omega, by go_num, by rw [HS.out]⟩
            case measure => simp [intOf]; omega
        · obtain rfl : j = 8 := by omega
          go_wp2
          go_round
          case rel => exact ⟨k + 1, by omega, by go_num, by rw [HF.out]⟩
          case measure => simp [intOf]; omega
    · obtain rfl : k = xs.length := by omega
      rw [List.take_length]
      have e2 := not_u32' (feeds ones xs)
      rw [show ones ^^^ feeds ones xs = R from HC.out] at e2
      clear HC
      generalize feeds ones xs = D at *
      obtain ⟨d0, d1⟩ := u32_bd D
      go_wp2
      go_ret
      exact ⟨rfl, rfl⟩
end Go.Proofs.Ytkmlajlnpfoepaa
