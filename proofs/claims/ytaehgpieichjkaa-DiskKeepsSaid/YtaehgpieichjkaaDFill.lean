/-
  The law's own fill: a block of one byte, in new memory.
-/
import Derived.Test.YtaehgpieichjkaaWMake
import Derived.Test.YtaehgpieichjkaaDk
import Derived.WalkSpells
import Derived.WalkLawsBesides
namespace Go.Proofs.Ytaehgpieichjkaa
set_option linter.unusedVariables false
set_option linter.unusedSimpArgs false
open Go.RowKit

/-- What fill leaves. -/
def FillL (w : World) (x : Int) (e : Ending) (w' : World) : Prop :=
  e = .returned (.slice (some ⟨w.heap.size, 0, none⟩) 128 128) ∧ Own w' w.heap.size w.heap.size 128 (fillB x) ∧ Below w.heap.size w w'
def FillI (w : World) (g : Nat) (x : Int) (j : Nat) (wr : World) : Prop :=
  ∃ us, Own wr w.heap.size g 128 us ∧ us.length = 128 ∧ us.take j = List.replicate j x ∧ Below w.heap.size w wr
set_option maxRecDepth 100000 in
set_option maxHeartbeats 400000 in
theorem fill_any (x : Int) (hx : U8 x) (w : World) :
    Calls Try.prog 11 #[.int .u8 x] w (FillL w x) := by
  go_enter Try.func11, Try.ntmps11
  go_wp2_with (with_reducible refine make_own _ rfl _ _ rfl w.heap.size 128 rfl rfl ?c1 ?c2 ?_)
  case c1 => omega
  case c2 => exact Nat.le_refl _
  intro w1 o1 b1
  have O1 := Lib.hid o1
  clear o1
  obtain ⟨g, hg⟩ : ∃ g, g = w.heap.size := ⟨_, rfl⟩
  have hgw : w.heap.size ≤ g := by omega
  have HG := Lib.hid hg
  obtain ⟨hm0, hm1⟩ := id hx
  clear hg
  go_wp2
  rw [← HG.out]
  go_loopw [4, 8] (fun _ iv wr => ∃ j : Nat, j ≤ 128 ∧ iv = .int .i64 (j : Int) ∧ FillI w g x j wr) (fun _ iv _ => 128 - (intOf iv).toNat)
  case atStart => exact ⟨0, Nat.zero_le _, rfl, zeros 128, by have := O1.out; rw [← HG.out] at this; rw [← HG.out]; exact this, zeros_length _, by simp, b1⟩
  case round =>
    obtain ⟨j, hj, rfl, us, ou, hul, htk, bel⟩ := hrel
    by_cases hlt : j < 128
    · have yu := ou.cell (k := j) (by omega)
      have fu := ou.frozen j
      have fin : (us.set j x).take (j + 1) = List.replicate (j + 1) x := by
        rw [take_set_succ us j x (by omega), htk, List.replicate_succ']
      have O3 := Lib.hid (ou.set j x hx)
      have L3 : Hid ((us.set j x).length = 128) := Lib.hid (by rw [List.length_set]; exact hul)
      have FIN := Lib.hid fin
      clear ou hul htk fin
      have i1 : (0 : Int) ≤ (j : Int) := by omega
      have i2 : (j : Int) < 128 := by omega
      generalize us.getD j 0 = v at *
      go_wp2
      go_roundw
      case rel => exact ⟨j + 1, by omega, by go_num, _, O3.out, L3.out, FIN.out, bel.setCell hgw _⟩
      case measure => simp [intOf]; omega
    · obtain rfl : j = 128 := by omega
      rw [List.take_of_length_le (by omega)] at htk
      have ho : Own wr w.heap.size g 128 (fillB x) := by unfold fillB; rw [← htk]; exact ou
      have HO := Lib.hid ho
      clear ou hul htk ho
      go_wp2
      go_ret
      rw [HG.out] at HO ⊢
      exact ⟨rfl, HO.out, bel⟩
end Go.Proofs.Ytaehgpieichjkaa
