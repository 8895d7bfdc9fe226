/-
  Words and bytes of the language as the maths of the remainder has them.
-/
import Derived.Test.YtjjkddahfmkhoaaProg
import Derived.Test.YtjjkddahfmkhoaaCrc
import Derived.WalkKit
import Derived.Lib.Hide
namespace Go.Proofs.Ytjjkddahfmkhoaa
set_option linter.unusedVariables false
set_option linter.unusedSimpArgs false
open Go.RowKit

/-- A word as the language has it. -/
def wrd (c : B32) : Int := (c.toNat : Int)
theorem u32_bd (c : B32) : 0 ≤ wrd c ∧ wrd c ≤ 4294967295 := by unfold wrd; have := c.isLt; omega
theorem u32_inj {c d : B32} (h : wrd c = wrd d) : c = d := BitVec.eq_of_toNat_eq (by unfold wrd at h; omega)
theorem ofInt_u32 (c : B32) : BitVec.ofInt 32 (wrd c) = c := by
  apply BitVec.eq_of_toNat_eq
  unfold wrd
  rw [BitVec.toNat_ofInt]
  have := c.isLt
  omega
theorem u32_wrap (c : B32) : IntKind.u32.wrap (wrd c) = wrd c := by
  have := u32_bd c
  rw [IntKind.wrap_u32]; omega
theorem xor_u32 (a b : B32) : bits .xor .u32 (wrd a) (wrd b) = wrd (a ^^^ b) := by
  have f : bits .xor .u32 (wrd a) (wrd b) = IntKind.u32.wrap ((BitVec.ofInt 32 (wrd a) ^^^ BitVec.ofInt 32 (wrd b)).toNat : Nat) := rfl
  rw [f, ofInt_u32, ofInt_u32]
  exact u32_wrap _
theorem byte_u32 {x : Int} (h : U8 x) : x = wrd (byteW x) := by
  unfold wrd; rw [byteW_toNat h]; unfold U8 at h; omega
theorem and1_u32 (c : B32) : bits .and .u32 (wrd c) 1 = if c.getLsbD 0 then 1 else 0 := by
  have f : bits .and .u32 (wrd c) 1 = IntKind.u32.wrap ((BitVec.ofInt 32 (wrd c) &&& BitVec.ofInt 32 1).toNat : Nat) := rfl
  have one : (BitVec.ofInt 32 1).toNat = 1 := by decide
  rw [f, ofInt_u32, BitVec.toNat_and, one, Nat.and_one_is_mod, IntKind.wrap_u32]
  have e : c.getLsbD 0 = decide (c.toNat % 2 = 1) := by rw [← BitVec.testBit_toNat, Nat.testBit_zero]
  rw [e]
  by_cases h : c.toNat % 2 = 1
  · rw [h]; decide
  · have h : c.toNat % 2 = 0 := by omega
    rw [h]; decide
theorem bit_u32 (c : B32) (k : Nat) : bits .and .u32 (wrd c / 2 ^ k) 1 = if c.getLsbD k then 1 else 0 := by
  have e : wrd c / 2 ^ k = wrd (c >>> k) := by
    unfold wrd; rw [BitVec.toNat_ushiftRight, Nat.shiftRight_eq_div_pow, Int.natCast_ediv, Int.natCast_pow]; rfl
  rw [e, and1_u32, BitVec.getLsbD_ushiftRight, Nat.add_zero]
theorem half_u32 (c : B32) : wrd c / (2 : Int) = wrd (c >>> 1) := by
  unfold wrd; rw [BitVec.toNat_ushiftRight, Nat.shiftRight_eq_div_pow]; omega
theorem poly_u32 : (3988292384 : Int) = wrd poly := by decide
theorem not_u32 (c : B32) : bits .xor .u32 (wrd c) 4294967295 = wrd (ones ^^^ c) := by
  have e : (4294967295 : Int) = wrd ones := by decide
  rw [e, xor_u32, BitVec.xor_comm]
theorem not_u32' (c : B32) : bits .xor .u32 IntKind.u32.max (wrd c) = wrd (ones ^^^ c) := by
  have e : IntKind.u32.max = wrd ones := by decide
  rw [e, xor_u32]
theorem csteps_succ (n : Nat) (c : B32) : csteps (n + 1) c = cstep (csteps n c) := by rw [csteps_add]; rfl
/-- One step, as the language does it. -/
theorem cstep_one {c : B32} (h : bits .and .u32 (wrd c) 1 = 1) : bits .xor .u32 (wrd c / 2) 3988292384 = wrd (cstep c) := by
  rw [and1_u32] at h
  have hc : c.getLsbD 0 = true := by
    cases e : c.getLsbD 0
    · rw [e] at h; exact absurd h (by decide)
    · rfl
  rw [half_u32, poly_u32, xor_u32]
  unfold cstep
  rw [if_pos hc]
theorem cstep_nil {c : B32} (h : ¬ bits .and .u32 (wrd c) 1 = 1) : wrd c / 2 = wrd (cstep c) := by
  rw [and1_u32] at h
  have hc : ¬ c.getLsbD 0 = true := fun e => h (by rw [e]; rfl)
  rw [half_u32]
  unfold cstep
  rw [if_neg hc]

theorem xor_u8 (a b : Int) : bits .xor .u8 a b = xorB a b := by
  have f : bits .xor .u8 a b = IntKind.u8.wrap ((BitVec.ofInt 8 a ^^^ BitVec.ofInt 8 b).toNat : Nat) := rfl
  have := (BitVec.ofInt 8 a ^^^ BitVec.ofInt 8 b).isLt
  rw [f, IntKind.wrap_u8]
  unfold xorB
  omega
/-- Are bytes closed? -/
def goodB (xs : List Int) : Bool := decide (4 ≤ xs.length) && decide (feeds ones xs = rest)
theorem good_closed (xs : List Int) : goodB (xs ++ le4 (crc xs)) = true := by
  unfold goodB
  rw [(feeds_closed xs (crc xs)).2 rfl, List.length_append]
  simp [le4]
theorem byteOf_wrd (X : B32) (i r : Nat) (h : r = 8 * i) : wrd X / 2 ^ r % 256 = byteOf X i := by
  subst h
  rw [byteOf_nat]
  unfold wrd
  have e : ((BitVec.toNat X : Nat) : Int) / 2 ^ (8 * i) = ((BitVec.toNat X / 2 ^ (8 * i) : Nat) : Int) := by rw [Int.natCast_ediv, Int.natCast_pow]; rfl
  rw [e]
  omega
/-- A word's four bytes, as the language reckons them. -/
theorem bytes_of (D : B32) : ∃ d0 d1 d2 d3 : Int, le4 D = [d0, d1, d2, d3] ∧ (U8 d0 ∧ U8 d1 ∧ U8 d2 ∧ U8 d3) ∧ wrd D % 256 = d0 ∧ wrd D / 256 % 256 = d1 ∧ wrd D / 65536 % 256 = d2 ∧ wrd D / 16777216 = d3 := by
  have h := u32_bd D
  have r0 := byteOf_wrd D 0 0 rfl
  have r1 := byteOf_wrd D 1 8 rfl
  have r2 := byteOf_wrd D 2 16 rfl
  have r3 := byteOf_wrd D 3 24 rfl
  refine ⟨byteOf D 0, byteOf D 1, byteOf D 2, byteOf D 3, rfl, ⟨byteOf_U8 _ _, byteOf_U8 _ _, byteOf_U8 _ _, byteOf_U8 _ _⟩, ?_, ?_, ?_, ?_⟩
  · rw [← r0]; simp
  · rw [← r1]; rfl
  · rw [← r2]; rfl
  · rw [← r3]
    have e : (2 : Int) ^ 24 = 16777216 := by decide
    rw [e]; omega
/-- A slice of bytes that reads as a list, in blocks below B. -/
def RdB (w : World) (B : Nat) (A : Option Addr) (xs : List Int) : Prop :=
  ∀ k, k < xs.length → ∃ b o, A = some ⟨b, o, none⟩ ∧ b < B ∧ w.cell? ⟨b, o + k, none⟩ = some (.int .u8 (xs.getD k 0)) ∧ U8 (xs.getD k 0)
theorem RdB.below {w w' : World} {B : Nat} {A : Option Addr} {xs : List Int} (h : RdB w B A xs) (hb : Below B w w') : RdB w' B A xs := fun k hk => by
  obtain ⟨b, o, h1, h2, h3, h4⟩ := h k hk
  exact ⟨b, o, h1, h2, by rw [hb.cell (p := ⟨b, o + k, none⟩) h2]; exact h3, h4⟩
theorem RdB.more {w : World} {B B' : Nat} {A : Option Addr} {xs : List Int} (h : RdB w B A xs) (hb : B ≤ B') : RdB w B' A xs := fun k hk => by
  obtain ⟨b, o, h1, h2, h3, h4⟩ := h k hk
  exact ⟨b, o, h1, by omega, h3, h4⟩
theorem getD_take (xs : List Int) (m k : Nat) (h : k < (xs.take m).length) : (xs.take m).getD k 0 = xs.getD k 0 := by
  rw [List.length_take] at h
  rw [List.getD_eq_getElem?_getD, List.getD_eq_getElem?_getD, List.getElem?_take_of_lt (by omega)]
theorem RdB.take {w : World} {B : Nat} {A : Option Addr} {xs : List Int} (h : RdB w B A xs) (m : Nat) : RdB w B A (xs.take m) := fun k hk => by
  rw [getD_take xs m k hk]
  exact h k (by rw [List.length_take] at hk; omega)
/-- The last four bytes. -/
theorem last_four (ys : List Int) (m : Nat) (hl : ys.length = m + 4) : ys = ys.take m ++ [ys.getD m 0, ys.getD (m + 1) 0, ys.getD (m + 2) 0, ys.getD (m + 3) 0] := by
  have d : ∀ k, k < ys.length → ys.drop k = ys.getD k 0 :: ys.drop (k + 1) := fun k hk => by
    rw [List.getD_eq_getElem?_getD, List.getElem?_eq_getElem hk, Option.getD_some, List.getElem_cons_drop]
  conv => lhs; rw [← List.take_append_drop m ys, d m (by omega), d (m + 1) (by omega), d (m + 2) (by omega), d (m + 3) (by omega), List.drop_eq_nil_of_le (by omega)]
/-- Closed, said by the last four bytes. -/
theorem good_last (ys : List Int) (m : Nat) (e0 e1 e2 e3 : Int) (hl : ys.length = m + 4) (hu : ∀ k, k < ys.length → U8 (ys.getD k 0)) (he : le4 (crc (ys.take m)) = [e0, e1, e2, e3]) :
    goodB ys = true ↔ (ys.getD m 0 = e0 ∧ ys.getD (m + 1) 0 = e1 ∧ ys.getD (m + 2) 0 = e2 ∧ ys.getD (m + 3) 0 = e3) := by
  have h := closed_iff (ys.take m) (hu m (by omega)) (hu (m + 1) (by omega)) (hu (m + 2) (by omega)) (hu (m + 3) (by omega))
  rw [← last_four ys m hl, he] at h
  unfold goodB
  rw [Bool.and_eq_true, decide_eq_true_eq, decide_eq_true_eq, h, hl]
  simp
theorem good_four (ys : List Int) (m : Nat) (hl : ys.length = m + 4) (hu : ∀ k, k < ys.length → U8 (ys.getD k 0)) :
    goodB ys = true ↔ ∀ i, i < 4 → ys.getD (m + i) 0 = byteOf (crc (ys.take m)) i := by
  rw [good_last ys m _ _ _ _ hl hu rfl]
  refine ⟨fun ⟨h0, h1, h2, h3⟩ i hi => ?_, fun h => ⟨h 0 (by omega), h 1 (by omega), h 2 (by omega), h 3 (by omega)⟩⟩
  rcases i with _ | _ | _ | _ | i
  · exact h0
  · exact h1
  · exact h2
  · exact h3
  · omega
end Go.Proofs.Ytjjkddahfmkhoaa
