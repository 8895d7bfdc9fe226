/-
  The contract of wide.Cmp: it returns -1, 0 or 1, as the first number is below, equal to or above the second; nothing that was in memory turns.
-/
import Derived.Test.YtnjegjmcfldpnaaWBits
import Derived.Test.YtnjegjmcfldpnaaWNum
import Derived.Lib.Hide
namespace Go.Proofs.Ytnjegjmcfldpnaa
set_option linter.unusedVariables false
set_option linter.unusedSimpArgs false
open Go.RowKit

theorem cmp_words {x y : Int} (hx : W128 x) (hy : W128 y) : (hiW x < hiW y → x < y) ∧ (hiW y < hiW x → y < x) ∧ (hiW x = hiW y → loW x < loW y → x < y) ∧ (hiW x = hiW y → loW y < loW x → y < x) ∧ (hiW x = hiW y → loW x = loW y → x = y) := by
  rw [hiW_of hx, hiW_of hy]; unfold loW
  omega
set_option maxHeartbeats 400000 in
theorem cmp_any (x y : Int) (hx : W128 x) (hy : W128 y) (w : World) :
    Calls Try.prog 20 #[.agg #[.int .i64 (hiW x), .int .u64 (loW x)], .agg #[.int .i64 (hiW y), .int .u64 (loW y)]] w fun e w' => e = .returned (.int .i64 (cmpI x y)) ∧ Below w.heap.size w w' := by
  obtain ⟨m1, m2, m3, m4, m5⟩ := cmp_words hx hy
  have key : (hiW x < hiW y ∧ Hid (cmpI x y = -1)) ∨ (hiW y < hiW x ∧ Hid (cmpI x y = 1)) ∨ (hiW x = hiW y ∧ loW x < loW y ∧ Hid (cmpI x y = -1)) ∨ (hiW x = hiW y ∧ loW y < loW x ∧ Hid (cmpI x y = 1)) ∨ (hiW x = hiW y ∧ loW x = loW y ∧ Hid (cmpI x y = 0)) := by
    have c1 : x < y → cmpI x y = -1 := fun h => by unfold cmpI; rw [if_pos h]
    have c2 : y < x → cmpI x y = 1 := fun h => by unfold cmpI; rw [if_neg (by omega), if_neg (by omega)]
    have c3 : x = y → cmpI x y = 0 := fun h => by unfold cmpI; rw [if_neg (by omega), if_pos h]
    rcases Int.lt_trichotomy (hiW x) (hiW y) with h | h | h
    · exact Or.inl ⟨h, Lib.hid (c1 (m1 h))⟩
    · rcases Int.lt_trichotomy (loW x) (loW y) with g | g | g
      · exact Or.inr (Or.inr (Or.inl ⟨h, g, Lib.hid (c1 (m3 h g))⟩))
      · exact Or.inr (Or.inr (Or.inr (Or.inr ⟨h, g, Lib.hid (c3 (m5 h g))⟩)))
      · exact Or.inr (Or.inr (Or.inr (Or.inl ⟨h, g, Lib.hid (c2 (m4 h g))⟩)))
    · exact Or.inr (Or.inl ⟨h, Lib.hid (c2 (m2 h))⟩)
  clear m1 m2 m3 m4 m5
  generalize hiW x = a at *
  generalize loW x = b at *
  generalize hiW y = c at *
  generalize loW y = d at *
  rcases key with ⟨h, H⟩ | ⟨h, H⟩ | ⟨h, g, H⟩ | ⟨h, g, H⟩ | ⟨h, g, H⟩
  · have b1 : (a != c) = true := by simp; omega
    go_enter Try.func20, Try.ntmps20
    go_wp2
    rw [H.out]
    go_ret
    exact ⟨rfl, ((Below.refl _ _).alloc (Nat.le_refl _) _).alloc (by simp) _⟩
  · have b1 : (a != c) = true := by simp; omega
    go_enter Try.func20, Try.ntmps20
    go_wp2
    rw [H.out]
    go_ret
    exact ⟨rfl, ((Below.refl _ _).alloc (Nat.le_refl _) _).alloc (by simp) _⟩
  all_goals
    subst h
    have b1 : (a != a) = false := by simp
    (first | subst g | skip)
    go_enter Try.func20, Try.ntmps20
    go_wp2
    rw [H.out]
    go_ret
    exact ⟨rfl, ((Below.refl _ _).alloc (Nat.le_refl _) _).alloc (by simp) _⟩
end Go.Proofs.Ytnjegjmcfldpnaa
