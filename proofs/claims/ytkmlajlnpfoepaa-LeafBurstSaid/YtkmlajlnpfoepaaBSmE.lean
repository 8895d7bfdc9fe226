/-
  A contract of the book's Same for bytes: of two slices as long it says whether they hold the same bytes; nothing that was in memory turns.
-/
import Derived.Test.YtkmlajlnpfoepaaBSm
namespace Go.Proofs.Ytkmlajlnpfoepaa
set_option linter.unusedVariables false
set_option linter.unusedSimpArgs false
open Go.RowKit

theorem same_dec {xs ys : List Int} {n : Nat} (hx : xs.length = n) (hy : ys.length = n) (h : ∀ k, k < n → xs.getD k 0 = ys.getD k 0) : xs = ys := by
  apply List.ext_getElem?
  intro i
  by_cases hi : i < n
  · have := h i hi
    rw [List.getD_eq_getElem?_getD, List.getD_eq_getElem?_getD, List.getElem?_eq_getElem (by omega), List.getElem?_eq_getElem (by omega)] at this
    rw [List.getElem?_eq_getElem (by omega), List.getElem?_eq_getElem (by omega)]
    exact congrArg some this
  · rw [List.getElem?_eq_none (by omega), List.getElem?_eq_none (by omega)]
set_option maxHeartbeats 400000 in
theorem bsame_eq (N : Nat) (A B : Option Addr) (n c c' : Nat) (xs ys : List Int) (w : World) (hn : n ≤ 4611686018427387904) (hl : xs.length = n) (hl' : ys.length = n) (hA : RdB w N A xs) (hB : RdB w N B ys) (hN : N ≤ w.heap.size) :
    Calls Try.prog 9 #[.slice A n c, .slice B n c'] w fun e w' => e = .returned (.bool (decide (xs = ys))) ∧ Below w.heap.size w w' := by
  have HL := Lib.hid hl; have HL' := Lib.hid hl'
  clear hl hl'
  go_enter Try.func9, Try.ntmps9
  go_wp2
  go_loopw [5] (fun i wr => ∃ k : Nat, k ≤ n ∧ i = .int .i64 k ∧ (∀ j, j < k → xs.getD j 0 = ys.getD j 0) ∧ Below w.heap.size w wr) (fun i _ => n - (intOf i).toNat)
  case atStart => exact ⟨0, Nat.zero_le _, rfl, fun j hj => by omega, Below.refl _ _⟩
  case round =>
    obtain ⟨k, hk, rfl, hall, hb⟩ := hrel
    have HALL := Lib.hid hall
    clear hall
    by_cases hlt : k < n
    · obtain ⟨b1, o1, rfl, hl1, hc1, u1⟩ := hA k (by rw [HL.out]; exact hlt)
      obtain ⟨b2, o2, rfl, hl2, hc2, u2⟩ := hB k (by rw [HL'.out]; exact hlt)
      have z1 : wr.cell? ⟨b1, o1 + k, none⟩ = some (.int .u8 (xs.getD k 0)) := by rw [hb.cell (p := ⟨b1, o1 + k, none⟩) (Nat.lt_of_lt_of_le hl1 hN)]; exact hc1
      have z2 : wr.cell? ⟨b2, o2 + k, none⟩ = some (.int .u8 (ys.getD k 0)) := by rw [hb.cell (p := ⟨b2, o2 + k, none⟩) (Nat.lt_of_lt_of_le hl2 hN)]; exact hc2
      have HA := Lib.hid hA; have HB := Lib.hid hB
      clear hA hB hc1 hc2 u1 u2
      by_cases he : xs.getD k 0 = ys.getD k 0
      · have HN : Hid (∀ j, j < k + 1 → xs.getD j 0 = ys.getD j 0) := Lib.hid (fun j hj => by
          by_cases hjk : j = k
          · rw [hjk]; exact he
          · exact HALL.out j (by omega))
        rw [he] at z1
        clear he
        generalize ys.getD k 0 = v at z1 z2
        go_wp2
        go_quiet (fail)
        go_wp2
        go_roundw
        case rel => exact ⟨k + 1, by omega, by go_num, HN.out, below_drewN hb _⟩
        case measure => simp [intOf]; omega
      · have HG : Hid (decide (xs = ys) = false) := Lib.hid (by rw [decide_eq_false_iff_not]; exact fun e => he (by rw [e]))
        have t1 : (xs.getD k 0 != ys.getD k 0) = true := by simpa using he
        have t2 : (xs.getD k 0 == ys.getD k 0) = false := by simpa using he
        clear he
        generalize xs.getD k 0 = v at z1 t1 t2
        generalize ys.getD k 0 = u at z2 t1 t2
        go_wp2
        go_quiet (fail)
        go_wp2
        go_ret
        exact ⟨by rw [HG.out]; rfl, below_drewN hb _⟩
    · obtain rfl : k = n := by omega
      have HG : Hid (decide (xs = ys) = true) := Lib.hid (by rw [decide_eq_true_eq]; exact same_dec HL.out HL'.out HALL.out)
      go_wp2
      go_ret
      exact ⟨by rw [HG.out]; rfl, hb⟩
end Go.Proofs.Ytkmlajlnpfoepaa
