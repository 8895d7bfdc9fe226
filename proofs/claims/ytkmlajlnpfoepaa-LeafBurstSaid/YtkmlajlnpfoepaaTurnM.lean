/-
  One bit of a row turned, in the maths of the remainder.
-/
import Derived.Test.YtkmlajlnpfoepaaWOwn
namespace Go.Proofs.Ytkmlajlnpfoepaa
set_option linter.unusedVariables false
set_option linter.unusedSimpArgs false

theorem mask_of (r : Nat) (h : r < 8) : ∃ mm : Int, (2 : Int) ^ r % 256 = mm ∧ U8 mm ∧ byteW mm = 1#32 <<< r := by
  match r, h with
  | 0, _ => exact ⟨1, by decide, ⟨by decide, by decide⟩, by decide⟩
  | 1, _ => exact ⟨2, by decide, ⟨by decide, by decide⟩, by decide⟩
  | 2, _ => exact ⟨4, by decide, ⟨by decide, by decide⟩, by decide⟩
  | 3, _ => exact ⟨8, by decide, ⟨by decide, by decide⟩, by decide⟩
  | 4, _ => exact ⟨16, by decide, ⟨by decide, by decide⟩, by decide⟩
  | 5, _ => exact ⟨32, by decide, ⟨by decide, by decide⟩, by decide⟩
  | 6, _ => exact ⟨64, by decide, ⟨by decide, by decide⟩, by decide⟩
  | 7, _ => exact ⟨128, by decide, ⟨by decide, by decide⟩, by decide⟩
/-- One bit more. -/
theorem turn_one (ys zs : List Int) (X : B32) (m p k : Nat) (mm : Int) (hl : ys.length = m) (hp : p + 32 ≤ 8 * m) (hk : k < 32) (hx : X.getLsbD k = true) (hf : feeds ones ys = feeds ones zs ^^^ csteps (8 * m - p) (some1 X k)) (hu : U8 (ys.getD ((p + k) / 8) 0)) (hm : U8 mm) (hb : byteW mm = 1#32 <<< ((p + k) % 8)) :
    feeds ones (ys.set ((p + k) / 8) (xorB (ys.getD ((p + k) / 8) 0) mm)) = feeds ones zs ^^^ csteps (8 * m - p) (some1 X (k + 1)) := by
  rw [feeds_set ones ys _ mm (by omega) hu hm, hf, hl, hb, bit_steps m p k hk (by omega) hp, BitVec.xor_assoc, ← csteps_xor]
  simp only [some1]
  rw [if_pos hx]
end Go.Proofs.Ytkmlajlnpfoepaa
