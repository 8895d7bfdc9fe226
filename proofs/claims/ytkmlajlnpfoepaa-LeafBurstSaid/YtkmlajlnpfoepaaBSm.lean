/-
  A contract of the book's Same for bytes: of two slices that hold the same bytes it returns true; nothing that was in memory turns.
-/
import Derived.Test.YtkmlajlnpfoepaaWOwn
import Derived.WalkSpells
import Derived.WalkLawsBesides
import Derived.Deep.QuietTactic
import Derived.BigQuiet
namespace Go.Proofs.Ytkmlajlnpfoepaa
set_option linter.unusedVariables false
set_option linter.unusedSimpArgs false
open Go.RowKit

set_option maxHeartbeats 400000 in
theorem bsame_yes (N : Nat) (A B : Option Addr) (n c c' : Nat) (xs : List Int) (w : World) (hn : n ≤ 4611686018427387904) (hl : xs.length = n) (hA : RdB w N A xs) (hB : RdB w N B xs) (hN : N ≤ w.heap.size) :
    Calls Try.prog 9 #[.slice A n c, .slice B n c'] w fun e w' => e = .returned (.bool true) ∧ Below w.heap.size w w' := by
  have HL := Lib.hid hl
  clear hl
  go_enter Try.func9, Try.ntmps9
  go_wp2
  go_loopw [5] (fun i wr => ∃ k : Nat, k ≤ n ∧ i = .int .i64 k ∧ Below w.heap.size w wr) (fun i _ => n - (intOf i).toNat)
  case atStart => exact ⟨0, Nat.zero_le _, rfl, Below.refl _ _⟩
  case round =>
    obtain ⟨k, hk, rfl, hb⟩ := hrel
    by_cases hlt : k < n
    · obtain ⟨b1, o1, rfl, hl1, hc1, _⟩ := hA k (by rw [HL.out]; exact hlt)
      obtain ⟨b2, o2, rfl, hl2, hc2, _⟩ := hB k (by rw [HL.out]; exact hlt)
      have z1 : wr.cell? ⟨b1, o1 + k, none⟩ = some (.int .u8 (xs.getD k 0)) := by rw [hb.cell (p := ⟨b1, o1 + k, none⟩) (Nat.lt_of_lt_of_le hl1 hN)]; exact hc1
      have z2 : wr.cell? ⟨b2, o2 + k, none⟩ = some (.int .u8 (xs.getD k 0)) := by rw [hb.cell (p := ⟨b2, o2 + k, none⟩) (Nat.lt_of_lt_of_le hl2 hN)]; exact hc2
      generalize xs.getD k 0 = v at z1 z2
      have HA := Lib.hid hA; have HB := Lib.hid hB
      clear hA hB hc1 hc2
      go_wp2
      go_quiet (fail)
      go_wp2
      go_roundw
      case rel => exact ⟨k + 1, by omega, by go_num, below_drewN hb _⟩
      case measure => simp [intOf]; omega
    · go_wp2
      go_ret
      exact ⟨rfl, hb⟩
end Go.Proofs.Ytkmlajlnpfoepaa
