/-
  Contracts of the book's functions for bytes: Roomy returns new memory that holds the bytes and 80 marks behind them; Intact, of such a row, returns true; nothing that was in memory turns.
-/
import Derived.Test.YtkmlajlnpfoepaaWMake
import Derived.Test.YtkmlajlnpfoepaaWCopy
import Derived.Test.YtkmlajlnpfoepaaBSm
import Derived.WalkSpells
import Derived.WalkLawsBesides
import Derived.Deep.QuietTactic
import Derived.BigQuiet
namespace Go.Proofs.Ytkmlajlnpfoepaa
set_option linter.unusedVariables false
set_option linter.unusedSimpArgs false
open Go.RowKit

/-- A list with 80 marks behind it. -/
def roomy (xs : List Int) (m : Int) : List Int := xs ++ List.replicate 80 m
/-- What Roomy leaves. -/
def RoomL (w : World) (n : Nat) (xs : List Int) (m : Int) (e : Ending) (w' : World) : Prop :=
  ∃ g, e = .returned (.slice (some ⟨g, 0, none⟩) (n + 80) (n + 80)) ∧ Own w' w.heap.size g (n + 80) (roomy xs m) ∧ Below w.heap.size w w'
/-- What is behind so many marks. -/
def RoomI (w : World) (g n : Nat) (xs : List Int) (m : Int) (j : Nat) (wr : World) : Prop :=
  ∃ us, Own wr w.heap.size g (n + 80) us ∧ us.length = n + 80 ∧ us.take (n + j) = xs ++ List.replicate j m ∧ Below w.heap.size w wr
set_option maxHeartbeats 400000 in
theorem roomy_any (N : Nat) (A : Option Addr) (n c : Nat) (xs : List Int) (m : Int) (w : World) (hn : n ≤ 1000) (hl : xs.length = n) (hA : RdB w N A xs) (hN : N ≤ w.heap.size) (hm : U8 m) :
    Calls Try.prog 11 #[.slice A n c, .int .u8 m] w (RoomL w n xs m) := by
  have HL := Lib.hid hl; have HR := Lib.hid hA
  clear hl hA
  go_enter Try.func11, Try.ntmps11
  go_wp2_with (with_reducible refine make_own _ rfl _ _ rfl w.heap.size (n + 80) rfl rfl ?c1 ?c2 ?_)
  case c1 => omega
  case c2 => exact Nat.le_refl _
  intro w1 o1 b1
  have O1 := Lib.hid o1
  clear o1
  go_wp2_with (with_reducible refine copy_rd rfl _ _ rfl w.heap.size w.heap.size (n + 80) (n + 80) (zeros (n + 80)) ?d1 rfl O1.out N A n c xs HL.out rfl ?d2 ?d3 w b1 ?d4 ?_)
  case d1 => exact zeros_length _
  case d2 => exact HR.out.below (b1.mono (by exact hN))
  case d3 => omega
  case d4 => exact Nat.le_refl _
  intro w2 o2 b2
  have l2 : (xs ++ (zeros (n + 80)).drop n).length = n + 80 := by rw [List.length_append, List.length_drop, zeros_length, HL.out]; omega
  have t2 : (xs ++ (zeros (n + 80)).drop n).take n = xs := by rw [List.take_append_of_le_length (by rw [HL.out]; exact Nat.le_refl _), List.take_of_length_le (by rw [HL.out]; exact Nat.le_refl _)]
  generalize xs ++ (zeros (n + 80)).drop n = us0 at *
  obtain ⟨g, hg⟩ : ∃ g, g = w.heap.size := ⟨_, rfl⟩
  have hgw : w.heap.size ≤ g := by omega
  have HG := Lib.hid hg; have O2 := Lib.hid o2; have L2 := Lib.hid l2; have T2 := Lib.hid t2
  obtain ⟨hm0, hm1⟩ := id hm
  clear o2 l2 t2 O1 b1 hg
  go_wp2
  rw [← HG.out]
  go_loopw [6] (fun iv wr => ∃ j : Nat, j ≤ 80 ∧ iv = .int .i64 ((n : Int) + (j : Int)) ∧ RoomI w g n xs m j wr) (fun iv _ => n + 80 - (intOf iv).toNat)
  case atStart => exact ⟨0, Nat.zero_le _, by simp, us0, by have := O2.out; rw [← HG.out] at this; rw [← HG.out]; exact this, L2.out, by rw [Nat.add_zero, T2.out]; simp, b2⟩
  case round =>
    obtain ⟨j, hj, rfl, us, ou, hul, htk, bel⟩ := hrel
    by_cases hlt : j < 80
    · obtain ⟨s, hs⟩ : ∃ s : Nat, s = n + j := ⟨_, rfl⟩
      have e1 : (n : Int) + (j : Int) = (s : Int) := by omega
      have yu := ou.cell (k := s) (by omega)
      have fu := ou.frozen s
      have fin : (us.set s m).take (n + (j + 1)) = xs ++ List.replicate (j + 1) m := by
        rw [← Nat.add_assoc, ← hs, take_set_succ us s m (by omega), hs, htk, List.append_assoc]
        rw [List.replicate_succ']
      have O3 := Lib.hid (ou.set s m hm)
      have L3 : Hid ((us.set s m).length = n + 80) := Lib.hid (by rw [List.length_set]; exact hul)
      have FIN := Lib.hid fin
      have i1 : (0 : Int) ≤ (s : Int) := by omega
      have i2 : (s : Int) < (n : Int) + 80 := by omega
      have i3 : s < n + 80 := by omega
      rw [e1]
      have E1 := Lib.hid e1; have HS := Lib.hid hs
      clear ou hul htk fin e1 hs
      generalize us.getD s 0 = v at *
      go_wp2
      go_roundw
      case rel => exact ⟨j + 1, by omega, by have := E1.out; congr 1; omega, _, O3.out, L3.out, FIN.out, bel.setCell hgw _⟩
      case measure => simp [intOf]; omega
    · obtain rfl : j = 80 := by omega
      rw [List.take_of_length_le (by omega)] at htk
      have ho : Own wr w.heap.size g (n + 80) (roomy xs m) := by unfold roomy; rw [← htk]; exact ou
      have HO := Lib.hid ho
      have c1 : decide ((n : Int) + 80 < (n : Int) + 80) = false := by simp
      clear ou hul htk ho
      go_wp2
      go_ret
      exact ⟨g, rfl, HO.out, bel⟩
theorem roomy_length (xs : List Int) (m : Int) : (roomy xs m).length = xs.length + 80 := by unfold roomy; rw [List.length_append, List.length_replicate]
theorem roomy_take (xs : List Int) (m : Int) (n : Nat) (h : xs.length = n) : (roomy xs m).take n = xs := by
  unfold roomy; rw [List.take_append_of_le_length (by omega), List.take_of_length_le (by omega)]
theorem roomy_mark (xs : List Int) (m : Int) (n j : Nat) (h : xs.length = n) (hj : j < 80) : (roomy xs m).getD (n + j) 0 = m := by
  unfold roomy
  rw [getD_append, if_neg (by omega), h, Nat.add_sub_cancel_left, List.getD_eq_getElem?_getD, List.getElem?_replicate, if_pos hj]
  rfl
set_option maxHeartbeats 400000 in
theorem intact_yes (N : Nat) (A B : Option Addr) (n c c' : Nat) (xs : List Int) (m : Int) (w : World) (hn : n ≤ 1000) (hl : xs.length = n) (hA : RdB w N A (roomy xs m)) (hB : RdB w N B xs) (hN : N ≤ w.heap.size) (hm : U8 m) (hc : n + 80 ≤ c) (hc' : c ≤ maxLen) :
    Calls Try.prog 16 #[.slice A (n + 80) c, .slice B n c', .int .u8 m] w fun e w' => e = .returned (.bool true) ∧ Below w.heap.size w w' := by
  unfold maxLen at hc'
  have HL := Lib.hid hl; have HA := Lib.hid hA; have HB := Lib.hid hB
  clear hl hA hB
  have sm := fun w0 hA hB hN => bsame_yes N A B n c c' xs w0 (by omega) HL.out hA hB hN
  have SM := Lib.hid sm
  clear sm
  have HT : Hid (RdB w N A xs) := Lib.hid (by have := HA.out.take n; rw [roomy_take xs m n HL.out] at this; exact this)
  obtain ⟨hm0, hm1⟩ := id hm
  go_enter Try.func16, Try.ntmps16
  go_wp2_with fail
  refine (SM.out w HT.out HB.out hN).mono ?_
  rintro e w1 ⟨rfl, b1⟩
  go_wp2
  go_loopw [7] (fun iv wr => ∃ j : Nat, j ≤ 80 ∧ iv = .int .i64 ((n : Int) + (j : Int)) ∧ Below w.heap.size w wr) (fun iv _ => n + 80 - (intOf iv).toNat)
  case atStart => exact ⟨0, Nat.zero_le _, by simp, b1⟩
  case round =>
    obtain ⟨j, hj, rfl, bel⟩ := hrel
    by_cases hlt : j < 80
    · obtain ⟨s, hs⟩ : ∃ s : Nat, s = n + j := ⟨_, rfl⟩
      have e1 : (n : Int) + (j : Int) = (s : Int) := by omega
      obtain ⟨bb, oo, rfl, hl1, hc1, _⟩ := HA.out s (by rw [roomy_length, HL.out]; omega)
      have z1 : wr.cell? ⟨bb, oo + s, none⟩ = some (.int .u8 m) := by
        rw [bel.cell (p := ⟨bb, oo + s, none⟩) (Nat.lt_of_lt_of_le hl1 hN), hc1, hs, roomy_mark xs m n j HL.out hlt]
      have i1 : (0 : Int) ≤ (s : Int) := by omega
      have i2 : (s : Int) < (n : Int) + 80 := by omega
      have i3 : s < n + 80 := by omega
      rw [e1]
      have E1 := Lib.hid e1
      clear hc1 e1 hs
      go_wp2
      go_roundw
      case rel => exact ⟨j + 1, by omega, by have := E1.out; congr 1; omega, bel⟩
      case measure => simp [intOf]; omega
    · obtain rfl : j = 80 := by omega
      have c1 : decide ((n : Int) + 80 < (n : Int) + 80) = false := by simp
      go_wp2
      go_ret
      exact ⟨rfl, bel⟩
end Go.Proofs.Ytkmlajlnpfoepaa
