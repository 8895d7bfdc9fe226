/-
  The walk of the statement BurstRuns: the call returns true; nothing that was in memory turns.
-/
import Derived.Test.YtikfjaimhmgajaaBU
import Derived.Lib.SlBytesConst
namespace Go.Proofs.Ytikfjaimhmgajaa
set_option linter.unusedVariables false
set_option linter.unusedSimpArgs false
open Go.RowKit

theorem crc_ab : [97, 98] ++ le4 (crc [97, 98]) = [97, 98, 109, 72, 131, 158] := by decide +kernel
theorem crc_nine : wrd (crc [49, 50, 51, 52, 53, 54, 55, 56, 57]) = 3421780262 := by decide +kernel
theorem crc_none : wrd (crc []) = 0 := by decide +kernel
theorem good_ab : goodB [97, 98, 109, 72, 131, 158] = true := by decide +kernel
theorem bad_ab : goodB [97, 102, 109, 72, 131, 158] = false := by decide +kernel
theorem all_U8 (xs : List Int) (h : (xs.all fun x => decide (0 ≤ x) && decide (x ≤ 255)) = true) (k : Nat) (hk : k < xs.length) : U8 (xs.getD k 0) := by
  have := List.all_eq_true.1 h (xs.getD k 0) (by rw [List.getD_eq_getElem?_getD, List.getElem?_eq_getElem hk]; exact List.getElem_mem hk)
  simp at this
  exact this

set_option maxHeartbeats 1000000 in
theorem runs_any (w : World) : Calls Try.prog 3 #[] w fun e w' => e = .returned (.bool true) ∧ Below w.heap.size w w' := by
  have kc := fun (w : World) (C : Array Value) (n c : Nat) => Lib.run_convert_bytes_const (P := Try.prog) w 22 5 C n c Try.underlying22 Try.underlying5
  go_enter Try.func3, Try.ntmps3
  go_wp2_with fail
  have r1 := RdB.lit w #[.int .u8 97, .int .u8 98] 5 (2, 3) [97, 98] rfl (all_U8 _ (by decide))
  have en : (w.alloc (.cells #[.int .u8 97, .int .u8 98] 5 (2, 3))).heap.size = w.heap.size + 1 := by simp
  have b0 : Below w.heap.size w (w.alloc (.cells #[.int .u8 97, .int .u8 98] 5 (2, 3))) := (Below.refl _ _).alloc (Nat.le_refl _) _
  rw [← en] at r1
  generalize w.alloc (.cells #[.int .u8 97, .int .u8 98] 5 (2, 3)) = W1 at *
  clear en
  refine (close_any _ _ 2 2 [97, 98] rfl (by decide) W1 r1 (Nat.le_refl _) (fun h => by cases h)).mono ?_
  rintro e w1 ⟨g, c, rfl, ow, b1⟩
  rw [crc_ab] at ow
  have OW := Lib.hid ow
  clear ow
  have hg : w.heap.size ≤ g := Nat.le_trans b0.size OW.out.lt.1
  have B1 := bstep b0 b1
  clear b0 b1 r1
  go_wp2_with fail
  have r2 := RdB.lit w1 #[.int .u8 49, .int .u8 50, .int .u8 51, .int .u8 52, .int .u8 53, .int .u8 54, .int .u8 55, .int .u8 56, .int .u8 57] 5 (9, 10) [49, 50, 51, 52, 53, 54, 55, 56, 57] rfl (all_U8 _ (by decide))
  have en : (w1.alloc (.cells #[.int .u8 49, .int .u8 50, .int .u8 51, .int .u8 52, .int .u8 53, .int .u8 54, .int .u8 55, .int .u8 56, .int .u8 57] 5 (9, 10))).heap.size = w1.heap.size + 1 := by simp
  rw [← en] at r2
  clear en
  have bb := (Below.refl w1.heap.size w1).alloc (Nat.le_refl _) (.cells #[.int .u8 49, .int .u8 50, .int .u8 51, .int .u8 52, .int .u8 53, .int .u8 54, .int .u8 55, .int .u8 56, .int .u8 57] 5 (9, 10))
  have OW2 := Lib.hid (OW.out.below bb)
  have B2 := bstep B1 bb
  clear OW B1 bb
  generalize w1.alloc (.cells #[.int .u8 49, .int .u8 50, .int .u8 51, .int .u8 52, .int .u8 53, .int .u8 54, .int .u8 55, .int .u8 56, .int .u8 57] 5 (9, 10)) = W2 at *
  have s1 := fun N A cap w0 hr hN => sum_any N A 9 cap [49, 50, 51, 52, 53, 54, 55, 56, 57] rfl (by decide) w0 hr hN
  rw [crc_nine] at s1
  refine (s1 _ _ 9 W2 r2 (Nat.le_refl _)).mono ?_
  rintro e w2 ⟨rfl, b2⟩
  have OW3 := Lib.hid (OW2.out.below b2)
  have B3 := bstep B2 b2
  clear OW2 B2 b2 s1 r2
  go_wp2_with fail
  have s2 := fun A cap w0 hr => sum_any 0 A 0 cap [] rfl (by decide) w0 hr (Nat.zero_le _)
  rw [crc_none] at s2
  refine (s2 none 0 w2 (fun k hk => absurd hk (by simp))).mono ?_
  rintro e w3 ⟨rfl, b3⟩
  have OW4 := Lib.hid (OW3.out.below b3)
  have B4 := bstep B3 b3
  clear OW3 B3 b3 s2
  go_wp2_with fail
  have s3 := fun N A cap w0 hr hN => good_any N A 6 cap [97, 98, 109, 72, 131, 158] rfl (by decide) w0 hr hN
  rw [good_ab] at s3
  refine (s3 _ _ c w3 OW4.out.reads (Nat.le_refl _) OW4.out.cap.1).mono ?_
  rintro e w4 ⟨rfl, b4⟩
  have OW5 := Lib.hid (OW4.out.below b4)
  have B5 := bstep B4 b4
  clear OW4 B4 b4 s3
  have c1 := OW5.out.cell (k := 1) (by decide)
  have f1 := OW5.out.frozen 1
  have x1 : bits .xor .u8 98 4 = 102 := by decide
  go_wp2_with fail
  have O6 := OW5.out.set 1 102 ⟨by decide, by decide⟩
  have B6 := B5.setCell (p := ⟨g, 1, none⟩) hg (.int .u8 102)
  have s4 := fun N A cap w0 hr hN => good_any N A 6 cap [97, 102, 109, 72, 131, 158] rfl (by decide) w0 hr hN
  rw [bad_ab] at s4
  refine (s4 _ _ c _ O6.reads (Nat.le_refl _) O6.cap.1).mono ?_
  rintro e w5 ⟨rfl, b5⟩
  go_wp2
  go_ret
  exact ⟨rfl, bstep B6 b5⟩
end Go.Proofs.Ytikfjaimhmgajaa
