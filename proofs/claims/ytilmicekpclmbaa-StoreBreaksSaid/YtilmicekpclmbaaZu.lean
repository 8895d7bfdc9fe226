/-
  The document's own number, low and RightLeaf (sheafref5): a number of bytes; its lowest bytes behind others; whether a leaf is right.
  The document's own RightLeaf (sheafref5): whether a leaf is right.
-/
import Derived.Test.YtilmicekpclmbaaZo
import Derived.Test.YtilmicekpclmbaaZb
import Derived.Lib.MinMax
import Derived.IntWalk
import Derived.WalkSmall
namespace Go.Proofs.Ytilmicekpclmbaa
set_option linter.unusedVariables false
set_option linter.unusedSimpArgs false
open Go.RowKit

theorem or_byte (n x : Int) (x0 : 0 ≤ x) (x1 : x ≤ 255) (n0 : 0 ≤ n) (n1 : n ≤ 36028797018963967) : bits .or .i64 (n * 256) x = n * 256 + x := by
  obtain ⟨k, rfl⟩ : ∃ k : Nat, n = k := ⟨n.toNat, by omega⟩
  obtain ⟨y, rfl⟩ : ∃ y : Nat, x = y := ⟨x.toNat, by omega⟩
  have f : ∀ a b : Int, bits .or .i64 a b = IntKind.i64.wrap ((BitVec.ofInt 64 a ||| BitVec.ofInt 64 b).toNat : Nat) := fun _ _ => rfl
  have t1 : (BitVec.ofInt 64 ((k : Int) * 256)).toNat = k <<< 8 := by
    rw [BitVec.toNat_ofInt, Nat.shiftLeft_eq]
    omega
  have t2 : (BitVec.ofInt 64 (y : Int)).toNat = y := by
    rw [BitVec.toNat_ofInt]
    omega
  have e := Nat.shiftLeft_add_eq_or_of_lt (b := y) (i := 8) (by omega) k
  have e2 : k <<< 8 = k * 256 := by rw [Nat.shiftLeft_eq]
  rw [f, BitVec.toNat_or, t1, t2, ← e, e2, IntKind.wrap_i64]
  omega
/-- A number of bytes, the lowest first. -/
def numL : List Int → Int
  | [] => 0
  | x :: r => numL r * 256 + x
theorem numL_bd : ∀ (xs : List Int) (n : Nat), xs.length ≤ n → (∀ k, k < xs.length → U8 (xs.getD k 0)) → 0 ≤ numL xs ∧ numL xs < 256 ^ n
  | [], n, _, _ => by
    refine ⟨Int.le_refl _, ?_⟩
    show (0 : Int) < 256 ^ n
    exact Int.pow_pos (by decide)
  | x :: r, n, hl, hu => by
    obtain ⟨m, rfl⟩ : ∃ m, n = m + 1 := ⟨n - 1, by simp at hl; omega⟩
    have ih := numL_bd r m (by simp at hl; omega) (fun k hk => by have := hu (k + 1) (by simp; omega); simpa using this)
    have h0 : U8 x := by have := hu 0 (by simp); simpa using this
    unfold U8 at h0
    show 0 ≤ numL r * 256 + x ∧ numL r * 256 + x < 256 ^ (m + 1)
    rw [Int.pow_succ]
    omega
theorem numL_drop (xs : List Int) (k : Nat) (hk : k < xs.length) : numL (xs.drop k) = numL (xs.drop (k + 1)) * 256 + xs.getD k 0 := by
  rw [List.drop_eq_getElem_cons hk, List.getD_eq_getElem?_getD, List.getElem?_eq_getElem hk]
  rfl
/-- So many of a number's bytes, the lowest first. -/
def lowL (n : Int) (k : Nat) : List Int := (List.range k).map (fun i => n / 2 ^ (8 * i) % 256)
theorem lowL_len (n : Int) (k : Nat) : (lowL n k).length = k := by unfold lowL; simp
theorem lowL_succ (n : Int) (k : Nat) : lowL n (k + 1) = lowL n k ++ [n / 2 ^ (8 * k) % 256] := by unfold lowL; rw [List.range_succ, List.map_append]; rfl
theorem lowL_two (n : Int) : lowL n 2 = le2 n := by
  show [n / 2 ^ (8 * 0) % 256, n / 2 ^ (8 * 1) % 256] = _
  unfold le2
  have e0 : n / 2 ^ (8 * 0) = n := by simp
  have e1 : (2 : Int) ^ (8 * 1) = 256 := by decide
  rw [e0, e1]
theorem lowL_four (X : B32) : lowL (wrd X) 4 = le4 X := by
  show [wrd X / 2 ^ (8 * 0) % 256, wrd X / 2 ^ (8 * 1) % 256, wrd X / 2 ^ (8 * 2) % 256, wrd X / 2 ^ (8 * 3) % 256] = _
  rw [byteOf_wrd X 0 (8 * 0) rfl, byteOf_wrd X 1 (8 * 1) rfl, byteOf_wrd X 2 (8 * 2) rfl, byteOf_wrd X 3 (8 * 3) rfl]
  rfl
/-- What low leaves. -/
def LowL (base k m : Nat) (ys : List Int) (w : World) (e : Ending) (w' : World) : Prop :=
  ∃ g c, e = .returned (.slice (some ⟨g, 0, none⟩) (k + m) c) ∧ Own w' base g c ys ∧ Below base w w'
end Go.Proofs.Ytilmicekpclmbaa
namespace Go.Proofs.Ytilmicekpclmbaa
set_option linter.unusedVariables false
set_option linter.unusedSimpArgs false
open Go.RowKit

end Go.Proofs.Ytilmicekpclmbaa
