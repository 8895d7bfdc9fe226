/-
  The walk of the statement MoneySums: for every slice of ints and every int the call returns true; nothing that was in memory turns.
-/
import Derived.Test.YtddlannblopbeaaMRuns
import Derived.Test.YtddlannblopbeaaMB
import Derived.Test.YtddlannblopbeaaWSums
import Derived.Test.YtddlannblopbeaaBWithinI
import Derived.Deep.DeepCutAuto
import Derived.Deep.RegionWith
namespace Go.Proofs.Ytddlannblopbeaa
set_option linter.unusedVariables false
set_option linter.unusedSimpArgs false
open Go.RowKit

/-- A Sum in a block. -/
def SumAt (w : World) (b : Nat) (v : Int) : Prop := Cell2 w b (.int .i64 (hiW v)) (.int .u64 (loW v))
/-- Four Sums in four blocks, one behind the other. -/
def S4 (w : World) (b : Nat) (v0 v1 v2 v3 : Int) : Prop := SumAt w b v0 ∧ SumAt w (b + 1) v1 ∧ SumAt w (b + 2) v2 ∧ SumAt w (b + 3) v3
theorem S4.below {w w' : World} {b : Nat} {v0 v1 v2 v3 : Int} (h : S4 w b v0 v1 v2 v3) (hb : Below w.heap.size w w') : S4 w' b v0 v1 v2 v3 :=
  ⟨Cell2.below h.1 hb, Cell2.below h.2.1 hb, Cell2.below h.2.2.1 hb, Cell2.below h.2.2.2 hb⟩
theorem S4.set0 {w w' : World} {b : Nat} {v0 v1 v2 v3 v : Int} (h : S4 w b v0 v1 v2 v3) (s : SumSet w w' b v) : S4 w' b v v1 v2 v3 :=
  ⟨s.cell h.1, s.far (by omega) h.2.1, s.far (by omega) h.2.2.1, s.far (by omega) h.2.2.2⟩
theorem S4.set1 {w w' : World} {b : Nat} {v0 v1 v2 v3 v : Int} (h : S4 w b v0 v1 v2 v3) (s : SumSet w w' (b + 1) v) : S4 w' b v0 v v2 v3 :=
  ⟨s.far (by omega) h.1, s.cell h.2.1, s.far (by omega) h.2.2.1, s.far (by omega) h.2.2.2⟩
theorem S4.set2 {w w' : World} {b : Nat} {v0 v1 v2 v3 v : Int} (h : S4 w b v0 v1 v2 v3) (s : SumSet w w' (b + 2) v) : S4 w' b v0 v1 v v3 :=
  ⟨s.far (by omega) h.1, s.far (by omega) h.2.1, s.cell h.2.2.1, s.far (by omega) h.2.2.2⟩
theorem S4.set3 {w w' : World} {b : Nat} {v0 v1 v2 v3 v : Int} (h : S4 w b v0 v1 v2 v3) (s : SumSet w w' (b + 3) v) : S4 w' b v0 v1 v2 v :=
  ⟨s.far (by omega) h.1, s.far (by omega) h.2.1, s.far (by omega) h.2.2.1, s.cell h.2.2.2⟩
def W4 (w : World) : World := (((w.alloc (.cells #[.int .i64 0, .int .u64 0] 30)).alloc (.cells #[.int .i64 0, .int .u64 0] 30)).alloc (.cells #[.int .i64 0, .int .u64 0] 30)).alloc (.cells #[.int .i64 0, .int .u64 0] 30)
theorem SumAt.new (w : World) : SumAt (w.alloc (.cells #[.int .i64 0, .int .u64 0] 30)) w.heap.size 0 := Cell2.new w (.int .i64 0) (.int .u64 0) 30
theorem W4.new (w : World) : S4 (W4 w) w.heap.size 0 0 0 0 ∧ Below w.heap.size w (W4 w) := by
  obtain ⟨o, ho⟩ : ∃ o, o = Obj.cells #[.int .i64 0, .int .u64 0] 30 := ⟨_, rfl⟩
  have one : ∀ v : World, (v.alloc o).heap.size = v.heap.size + 1 := fun v => by simp
  have e1 := one w
  have e2 := one (w.alloc o)
  have e3 := one ((w.alloc o).alloc o)
  have c0 := SumAt.new w
  have c1 := SumAt.new (w.alloc o)
  have c2 := SumAt.new ((w.alloc o).alloc o)
  have c3 := SumAt.new (((w.alloc o).alloc o).alloc o)
  rw [← ho] at c0 c1 c2 c3
  rw [e1] at c1 e2
  rw [e2] at c2 e3
  rw [e3] at c3
  unfold W4
  rw [← ho]
  refine ⟨⟨((c0.alloc o).alloc o).alloc o, (Cell2.alloc c1 o).alloc o, Cell2.alloc c2 o, c3⟩, ?_⟩
  exact ((((Below.refl _ _).alloc (Nat.le_refl _) _).alloc (by omega) _).alloc (by omega) _).alloc (by omega) _
/-- What holds at the head of the loop: the four sums, so far. -/
def SL (B : World) (b : Nat) (zs : List Int) (n K : Nat) (kv : Value) (wr : World) : Prop :=
  ∃ k : Nat, k ≤ n ∧ kv = .int .i64 k ∧ S4 wr b (sumTo zs k) (sumBack zs n k) (sumTo zs (min k K)) (sumTo zs k - sumTo zs (min k K)) ∧ Below B.heap.size B wr

set_option maxRecDepth 100000 in
set_option maxHeartbeats 2000000 in
theorem msums_any (A : Option Addr) (len cap : Nat) (zs : List Int) (c : Int) (w : World) (hr : RA w A len cap zs) (hc : I64 c) :
    Calls Try.prog 6 #[.slice A len cap, .int .i64 c] w fun e w' => e = .returned (.bool true) ∧ Below w.heap.size w w' := by
  obtain ⟨hr1, hr2, hr3⟩ := hr
  unfold maxLen at hr2
  have HR3 := Lib.hid hr3
  clear hr3
  obtain ⟨n, hn⟩ : ∃ n : Nat, n = min len 40 := ⟨_, rfl⟩
  have e1 : min (len : Int) 40 = (n : Int) := by omega
  have n1 : n ≤ 40 := by omega
  have n2 : n ≤ len := by omega
  clear hn
  go_enter Try.func6, Try.ntmps6
  go_wp2_with fail
  refine (within_in c 0 (n : Int) hc (by decide) (by omega) (by omega) (by omega) _).mono ?_
  rintro e w' ⟨y, rfl, y0, y1, rfl⟩
  obtain ⟨K, rfl⟩ := Int.eq_ofNat_of_zero_le y0
  have k1 : K ≤ n := by omega
  clear y0 y1
  have hi64 : ∀ k, k < n → I64 (zs.getD k 0) := fun k hk => by obtain ⟨_, _, _, _, _, h⟩ := HR3.out k (by omega); exact h
  have HI := Lib.hid (sum_W128 zs n hi64 n (Nat.le_refl _) (by omega))
  clear hi64
  obtain ⟨s4, bel⟩ := W4.new w
  unfold W4 at s4 bel
  go_wp2
  generalize (((w.alloc (.cells #[.int .i64 0, .int .u64 0] 30)).alloc (.cells #[.int .i64 0, .int .u64 0] 30)).alloc (.cells #[.int .i64 0, .int .u64 0] 30)).alloc (.cells #[.int .i64 0, .int .u64 0] 30) = W0 at *
  obtain ⟨nb, hnb⟩ : ∃ nb, nb = w.heap.size := ⟨_, rfl⟩
  have hle : w.heap.size ≤ nb := by omega
  rw [← hnb] at s4 ⊢
  clear hnb
  go_loopw [11, 27] (fun _ kv wr => SL w nb zs n K kv wr) (fun _ kv _ => n - (intOf kv).toNat)
  case atStart => exact ⟨0, Nat.zero_le _, rfl, by rw [Nat.zero_min]; exact s4, bel⟩
  case round =>
    clear s4 bel
    obtain ⟨k, hk, rfl, s4, bel⟩ := hrel
    by_cases hlt : k < n
    · obtain ⟨bb, oo, rfl, hl1, hc1, hv1⟩ := HR3.out k (by omega)
      obtain ⟨bb', oo', hbo, hl2, hc2, hv2⟩ := HR3.out (n - 1 - k) (by omega)
      injection hbo with hbo
      injection hbo with hbo1 hbo2
      subst hbo1 hbo2
      have sx : sumTo zs k + zs.getD k 0 = sumTo zs (k + 1) := rfl
      have sy : sumBack zs n k + zs.getD (n - 1 - k) 0 = sumBack zs n (k + 1) := rfl
      have sz : (k < K → sumTo zs (min k K) + zs.getD k 0 = sumTo zs (min (k + 1) K) ∧ sumTo zs k - sumTo zs (min k K) = sumTo zs (k + 1) - sumTo zs (min (k + 1) K)) ∧ (¬ k < K → sumTo zs (min k K) = sumTo zs (min (k + 1) K) ∧ sumTo zs k - sumTo zs (min k K) + zs.getD k 0 = sumTo zs (k + 1) - sumTo zs (min (k + 1) K)) := by
        refine ⟨fun h => ?_, fun h => ?_⟩
        · rw [Nat.min_eq_left (by omega), Nat.min_eq_left (by omega)]
          exact ⟨sx, by omega⟩
        · rw [Nat.min_eq_right (by omega), Nat.min_eq_right (by omega)]
          exact ⟨rfl, by rw [← sx]; omega⟩
      obtain ⟨j, hj⟩ : ∃ j : Nat, j = n - 1 - k := ⟨_, rfl⟩
      rw [← hj] at hc2 hv2 sy
      have hjn : j < n := by omega
      have ej : (n : Int) - 1 - (k : Int) = (j : Int) := by omega
      have z1 : wr.cell? ⟨bb, oo + k, none⟩ = some (.int .i64 (zs.getD k 0)) := by rw [bel.cell (p := ⟨bb, oo + k, none⟩) hl1]; exact hc1
      generalize zs.getD k 0 = v1 at *
      generalize zs.getD j 0 = v2 at *
      generalize sumTo zs k - sumTo zs (min k K) = X3 at *
      generalize sumTo zs (min k K) = X2 at *
      generalize sumBack zs n k = X1 at *
      generalize sumTo zs k = X0 at *
      have SX := Lib.hid sx; have SY := Lib.hid sy; have SZ := Lib.hid sz; have EJ := Lib.hid ej; have Z1 := Lib.hid hc1; have Z2 := Lib.hid hc2
      clear sx sy sz ej hj hc1 hc2
      have H4 := Lib.hid s4; have HB := Lib.hid bel
      clear s4 bel
      go_wp2_with fail
      refine (sadd_any X0 v1 hv1 nb _ H4.out.1).mono ?_
      rintro e wa ⟨rfl, sa⟩
      have s4 := H4.out.set0 sa
      have bel := sa.below HB.out hle
      have z2 : wa.cell? ⟨bb, oo + j, none⟩ = some (.int .i64 v2) := by rw [bel.cell (p := ⟨bb, oo + j, none⟩) hl2]; exact Z2.out
      clear H4 HB sa z1 Z2
      have H4 := Lib.hid s4; have HB := Lib.hid bel
      clear s4 bel
      have i1 : IntKind.i64.wrap ((n : Int) - 1) = (n : Int) - 1 := by rw [IntKind.wrap_i64]; omega
      have i2 : IntKind.i64.wrap ((n : Int) - 1 - (k : Int)) = (j : Int) := by rw [EJ.out, IntKind.wrap_i64]; omega
      have i3 : (0 : Int) ≤ (j : Int) := by omega
      have i4 : (j : Int) < (n : Int) := by omega
      have ej := EJ.out
      have i5 : IntKind.i64.wrap (j : Int) = (j : Int) := by rw [IntKind.wrap_i64]; omega
      have i6 : wrap64 (j : Int) = (j : Int) := by unfold wrap64; omega
      go_wp2_with fail
      refine (sadd_any X1 v2 hv2 (nb + 1) _ H4.out.2.1).mono ?_
      rintro e wb ⟨rfl, sb⟩
      have s4 := H4.out.set1 sb
      have bel := sb.below HB.out (by omega)
      have z1 : wb.cell? ⟨bb, oo + k, none⟩ = some (.int .i64 v1) := by rw [bel.cell (p := ⟨bb, oo + k, none⟩) hl1]; exact Z1.out
      clear H4 HB sb z2 Z1 i1 i2 ej i5 i6 i3 i4
      have H4 := Lib.hid s4; have HB := Lib.hid bel
      clear s4 bel
      by_cases hK : k < K
      · obtain ⟨q1, q2⟩ := SZ.out.1 hK
        have Q1 := Lib.hid q1; have Q2 := Lib.hid q2
        clear q1 q2
        have c1 : (k : Int) < (K : Int) := by omega
        go_wp2_with fail
        refine (sadd_any X2 v1 hv1 (nb + 2) _ H4.out.2.2.1).mono ?_
        rintro e wc ⟨rfl, sc⟩
        have s4 := H4.out.set2 sc
        have bel := sc.below HB.out (by omega)
        go_wp2
        go_roundw
        case rel => exact ⟨k + 1, by omega, by go_num, by rw [← SX.out, ← SY.out, ← Q1.out]; rw [Q2.out, ← SX.out, ← Q1.out] at s4; exact s4, bel⟩
        case measure => simp [intOf]; omega
      · obtain ⟨q1, q2⟩ := SZ.out.2 hK
        have Q1 := Lib.hid q1; have Q2 := Lib.hid q2
        clear q1 q2
        have c1 : decide ((k : Int) < (K : Int)) = false := by simp; omega
        go_wp2_with fail
        refine (sadd_any X3 v1 hv1 (nb + 3) _ H4.out.2.2.2).mono ?_
        rintro e wc ⟨rfl, sc⟩
        have s4 := H4.out.set3 sc
        have bel := sc.below HB.out (by omega)
        go_wp2
        go_roundw
        case rel => exact ⟨k + 1, by omega, by go_num, by rw [Q1.out, Q2.out, SX.out, SY.out] at s4; exact s4, bel⟩
        case measure => simp [intOf]; omega
    · obtain rfl : k = n := by omega
      have HI' := HI.out
      rw [sum_same, Nat.min_eq_right k1] at s4
      obtain ⟨Y, hY⟩ : ∃ Y, Y = sumTo zs k := ⟨_, rfl⟩
      rw [← hY] at s4 HI'
      clear hY
      generalize sumTo zs K = X2 at *
      have H4 := Lib.hid s4; have HB := Lib.hid bel
      obtain ⟨_, x1, x2, x3, x4⟩ := s4.2.2.1
      clear s4 bel
      go_wp2_with fail
      have ey : Y - X2 + X2 = Y := by omega
      refine (sjoin_any (Y - X2) X2 (nb + 3) _ H4.out.2.2.2).mono ?_
      rintro e wa ⟨rfl, sa⟩
      rw [ey] at sa
      have s4 := H4.out.set3 sa
      have bel := sa.below HB.out (by omega)
      clear H4 HB sa x1 x2 x3 x4 ey
      have H4 := Lib.hid s4; have HB := Lib.hid bel
      clear s4 bel
      go_wp2_with fail
      refine (svalue_any Y HI' nb _ H4.out.1).mono ?_
      rintro e wb ⟨rfl, b1⟩
      have H5 := Lib.hid (H4.out.below b1); have HB5 := Lib.hid (bstep HB.out b1)
      clear b1 H4 HB
      go_wp2_with fail
      refine (svalue_any Y HI' (nb + 3) _ H5.out.2.2.2).mono ?_
      rintro e wd ⟨rfl, b2⟩
      have H6 := Lib.hid (H5.out.below b2); have HB6 := Lib.hid (bstep HB5.out b2)
      clear b2 H5 HB5
      generalize intV Y = I at *
      generalize intB Y = J at *
      go_wp2_with fail
      refine (swide_any Y nb _ H6.out.1).mono ?_
      rintro e we ⟨rfl, b3⟩
      have H7 := Lib.hid (H6.out.below b3); have HB7 := Lib.hid (bstep HB6.out b3)
      clear b3 H6 HB6
      go_wp2_with fail
      refine (swide_any Y (nb + 1) _ H7.out.2.1).mono ?_
      rintro e wf ⟨rfl, b4⟩
      have H8 := Lib.hid (H7.out.below b4); have HB8 := Lib.hid (bstep HB7.out b4)
      clear b4 H7 HB7
      go_wp2_with fail
      refine (swide_any Y (nb + 3) _ H8.out.2.2.2).mono ?_
      rintro e wg ⟨rfl, b5⟩
      have H9 := Lib.hid (H8.out.below b5); have HB9 := Lib.hid (bstep HB8.out b5)
      clear b5 H8 HB8
      go_wp2_with fail
      refine (swide_any Y nb _ H9.out.1).mono ?_
      rintro e wh ⟨rfl, b6⟩
      have HB10 := Lib.hid (bstep HB9.out b6)
      clear b6 H9 HB9
      go_wp2_with fail
      refine (runs_any _).mono ?_
      rintro e wi ⟨rfl, b7⟩
      go_wp2
      go_ret
      exact ⟨rfl, bstep HB10.out b7⟩
end Go.Proofs.Ytddlannblopbeaa
