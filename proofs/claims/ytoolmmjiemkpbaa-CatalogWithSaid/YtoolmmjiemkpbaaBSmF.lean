/-
  Contracts of the book's Same for files, and of Catalogs: whether two rows of files, two catalogs, are the same; nothing that was in memory turns.
-/
import Derived.Test.YtoolmmjiemkpbaaCA
import Derived.WalkSmall
import Derived.Deep.QuietTactic
import Derived.BigQuiet
namespace Go.Proofs.Ytoolmmjiemkpbaa
set_option linter.unusedVariables false
set_option linter.unusedSimpArgs false
open Go.RowKit

attribute [local go_sem ↓] neqFl_eq
set_option maxHeartbeats 800000 in
theorem fsame_eq (N : Nat) (A B : Option Addr) (n m c c' : Nat) (xs ys : List Fl) (w : World) (hn : n ≤ maxLen) (hm : m ≤ maxLen) (hl : xs.length = n) (hl' : ys.length = m) (hA : FlR w N A xs) (hB : FlR w N B ys) (hN : N ≤ w.heap.size) :
    Calls Try.prog 10 #[.slice A n c, .slice B m c'] w fun e w' => e = .returned (.bool (decide (xs = ys))) ∧ Below w.heap.size w w' := by
  unfold maxLen at hn hm
  have HL := Lib.hid hl; have HL' := Lib.hid hl'; have HA := Lib.hid hA; have HB := Lib.hid hB
  clear hl hl' hA hB
  go_enter Try.func10, Try.ntmps10
  by_cases hnm : n = m
  · subst hnm
    go_wp2
    go_loopw [5] (fun i wr => ∃ k : Nat, k ≤ n ∧ i = .int .i64 k ∧ (∀ j, j < k → flAt xs j = flAt ys j) ∧ Below w.heap.size w wr) (fun i _ => n - (intOf i).toNat)
    case atStart => exact ⟨0, Nat.zero_le _, rfl, fun j hj => by omega, Below.refl _ _⟩
    case round =>
      obtain ⟨k, hk, rfl, hall, hb⟩ := hrel
      have HALL := Lib.hid hall
      clear hall
      by_cases hlt : k < n
      · obtain ⟨b1, o1, rfl, hl1, p0, p1, p2, p3, _⟩ := (HA.out.below (hb.mono hN)) k (by rw [HL.out]; exact hlt)
        obtain ⟨b2, o2, rfl, hl2, q0, q1, q2, q3, _⟩ := (HB.out.below (hb.mono hN)) k (by rw [HL'.out]; exact hlt)
        have eg := fl_guard
        have eq1 := neqFl_run (flAt xs k) (flAt ys k)
        by_cases he : flAt xs k = flAt ys k
        · have HN : Hid (∀ j, j < k + 1 → flAt xs j = flAt ys j) := Lib.hid (fun j hj => by
            by_cases hjk : j = k
            · rw [hjk]; exact he
            · exact HALL.out j (by omega))
          rw [decide_eq_true he, Bool.not_true] at eq1
          clear he
          generalize flAt xs k = x at *
          generalize flAt ys k = y at *
          go_wp2
          go_quiet (fail)
          go_wp2
          go_roundw
          case rel => exact ⟨k + 1, by omega, by go_num, HN.out, below_drewN hb _⟩
          case measure => simp [intOf]; omega
        · have HG : Hid (decide (xs = ys) = false) := Lib.hid (by rw [decide_eq_false_iff_not]; exact fun e => he (by rw [e]))
          rw [decide_eq_false he, Bool.not_false] at eq1
          clear he
          generalize flAt xs k = x at *
          generalize flAt ys k = y at *
          go_wp2
          go_quiet (fail)
          go_wp2
          go_ret
          exact ⟨by rw [HG.out]; rfl, below_drewN hb _⟩
      · obtain rfl : k = n := by omega
        have HG : Hid (decide (xs = ys) = true) := Lib.hid (by rw [decide_eq_true_eq]; exact files_ext (by rw [HL.out, HL'.out]) (fun i hi => HALL.out i (by rw [← HL'.out]; exact hi)))
        go_wp2
        go_ret
        exact ⟨by rw [HG.out]; rfl, hb⟩
  · have HG : Hid (decide (xs = ys) = false) := Lib.hid (by rw [decide_eq_false_iff_not]; exact fun e => hnm (by rw [← HL.out, ← HL'.out, e]))
    have t1 : ((n : Int) != (m : Int)) = true := by simp; omega
    have t2 : (n != m) = true := by simpa using hnm
    clear hnm
    go_wp2
    go_ret
    exact ⟨by rw [HG.out]; rfl, Below.refl _ _⟩
end Go.Proofs.Ytoolmmjiemkpbaa
