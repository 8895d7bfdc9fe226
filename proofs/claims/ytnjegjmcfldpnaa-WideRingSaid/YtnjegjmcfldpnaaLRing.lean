/-
  The walk of the statement WideRing: for every three ints and every slice of ints the call returns true; nothing that was in memory turns.
-/
import Derived.Test.YtnjegjmcfldpnaaLFits
import Derived.Test.YtnjegjmcfldpnaaWCell
import Derived.Test.YtnjegjmcfldpnaaWAdd
import Derived.Deep.DeepCutAuto
import Derived.Deep.RegionWith
namespace Go.Proofs.Ytnjegjmcfldpnaa
set_option linter.unusedVariables false
set_option linter.unusedSimpArgs false
open Go.RowKit

/-- A slice of ints that came in. -/
def RA (w : World) (A : Option Addr) (len cap : Nat) (zs : List Int) : Prop :=
  len ≤ cap ∧ cap ≤ maxLen ∧ ∀ k, k < len → ∃ b o, A = some ⟨b, o, none⟩ ∧ b < w.heap.size ∧ w.cell? ⟨b, o + k, none⟩ = some (.int .i64 (zs.getD k 0)) ∧ I64 (zs.getD k 0)

/-- The sum of the first k numbers; of the last k of n. -/
def sumTo (zs : List Int) : Nat → Int
  | 0 => 0
  | k + 1 => sumTo zs k + zs.getD k 0
def sumBack (zs : List Int) (n : Nat) : Nat → Int
  | 0 => 0
  | k + 1 => sumBack zs n k + zs.getD (n - 1 - k) 0
theorem sum_split (zs : List Int) (n : Nat) : ∀ k, k ≤ n → sumTo zs (n - k) + sumBack zs n k = sumTo zs n
  | 0, _ => by simp [sumBack]
  | k + 1, h => by
    have ih := sum_split zs n k (by omega)
    have e : n - k = (n - (k + 1)) + 1 := by omega
    rw [e] at ih
    have f : n - (k + 1) = n - 1 - k := by omega
    simp only [sumTo, sumBack] at ih ⊢
    rw [f] at ih ⊢
    omega
theorem sum_same (zs : List Int) (n : Nat) : sumBack zs n n = sumTo zs n := by
  have := sum_split zs n n (Nat.le_refl _)
  rw [Nat.sub_self] at this
  simpa [sumTo] using this

/-- What holds at the head of the loop: both sums, so far. -/
def RL (B : World) (nx ny : Nat) (zs : List Int) (a : Int) (n : Nat) (kv : Value) (wr : World) : Prop :=
  ∃ k : Nat, k ≤ n ∧ kv = .int .i64 k ∧ Cell2 wr nx (.int .i64 (hiW (sumTo zs k * a))) (.int .u64 (loW (sumTo zs k * a))) ∧ Cell2 wr ny (.int .i64 (hiW (sumBack zs n k * a))) (.int .u64 (loW (sumBack zs n k * a))) ∧ Below B.heap.size B wr

set_option maxRecDepth 100000 in
set_option maxHeartbeats 2000000 in
theorem ring_any (a b c : Int) (A : Option Addr) (len cap : Nat) (zs : List Int) (w : World) (ha : I64 a) (hb : I64 b) (hc : I64 c) (hr : RA w A len cap zs) :
    Calls Try.prog 5 #[.int .i64 a, .int .i64 b, .int .i64 c, .slice A len cap] w fun e w' => e = .returned (.bool true) ∧ Below w.heap.size w w' := by
  have HR := Lib.hid hr
  clear hr
  have h0 : hiW 0 = 0 := by decide
  have l0 : loW 0 = 0 := by decide
  have i1 : I64 1 := ⟨by decide, by decide⟩
  have i0 : I64 0 := ⟨by decide, by decide⟩
  go_enter Try.func5, Try.ntmps5
  go_wp2_with fail
  refine (within_in b (-2305843009213693952) 2305843009213693952 hb (by decide) (by decide) (by decide) (by decide) _).mono ?_
  rintro e w' ⟨h, rfl, h1, h2, rfl⟩
  go_wp2_with fail
  refine (within_in c (-2305843009213693952) 2305843009213693952 hc (by decide) (by decide) (by decide) (by decide) _).mono ?_
  rintro e w' ⟨i, rfl, i2, i3, rfl⟩
  have hh : I64 h := ⟨by omega, by omega⟩
  have hi : I64 i := ⟨by omega, by omega⟩
  have hhi : I64 (h + i) := ⟨by omega, by omega⟩
  go_wp2_with fail
  refine (mul_any a b ha hb _).mono ?_
  rintro e w1 ⟨rfl, b1⟩
  have r1 : b * a = a * b := Int.mul_comm b a
  go_wp2_with fail
  refine (mul_any b a hb ha _).mono ?_
  rintro e w2 ⟨rfl, b2⟩
  have bel := bstep b1 b2
  rw [r1]
  clear r1
  go_wp2_with fail
  refine (mul_any a (h + i) ha hhi _).mono ?_
  rintro e w3 ⟨rfl, b3⟩
  replace bel := bstep bel b3
  rw [Int.mul_add]
  go_wp2_with fail
  refine (mul_any a h ha hh _).mono ?_
  rintro e w4 ⟨rfl, b4⟩
  replace bel := bstep bel b4
  go_wp2_with fail
  refine (mul_any a i ha hi _).mono ?_
  rintro e w5 ⟨rfl, b5⟩
  replace bel := bstep bel b5
  generalize a * h = Q at *
  generalize a * i = R at *
  go_wp2_with fail
  refine (add_any Q R _).mono ?_
  rintro e w6 ⟨rfl, b6⟩
  replace bel := bstep bel b6
  go_wp2_with fail
  refine (mul_any a 1 ha i1 _).mono ?_
  rintro e w7 ⟨rfl, b7⟩
  replace bel := bstep bel b7
  rw [Int.mul_one]
  go_wp2_with fail
  refine (of_any a ha _).mono ?_
  rintro e w8 ⟨rfl, b8⟩
  replace bel := bstep bel b8
  go_wp2_with fail
  refine (mul_any a 0 ha i0 _).mono ?_
  rintro e w9 ⟨rfl, b9⟩
  replace bel := bstep bel b9
  rw [Int.mul_zero, h0, l0]
  clear b1 b2 b3 b4 b5 b6 b7 b8 b9
  generalize w9 = W at *
  go_upto_region 4 with fail
  go_cut [67] (fun v wc => v = .bool false ∧ Below w.heap.size w wc)
  case first =>
    by_cases hm : a = -9223372036854775808
    · have b1 : (a == -9223372036854775808) = true := by simpa using hm
      go_wp2
      go_meet
      case rel => exact ⟨rfl, bel⟩
    · have b1 : (a == -9223372036854775808) = false := by simpa using hm
      have ha' : I64 (-a) := by unfold I64 at *; omega
      obtain ⟨a0, a1⟩ := id ha
      have e0 : a * b + -a * b = 0 := by rw [Int.neg_mul]; omega
      have na : -9223372036854775807 ≤ a := by omega
      have E0 := Lib.hid e0
      clear e0 hm
      go_wp2_with fail
      refine (mul_any a b ha hb _).mono ?_
      rintro e v1 ⟨rfl, c1⟩
      go_wp2_with fail
      refine (mul_any (-a) b ha' hb _).mono ?_
      rintro e v2 ⟨rfl, c2⟩
      go_wp2_with fail
      refine (add_any (a * b) (-a * b) _).mono ?_
      rintro e v3 ⟨rfl, c3⟩
      rw [E0.out, h0, l0]
      go_wp2
      go_meet
      case rel => exact ⟨rfl, bstep (bstep (bstep bel c1) c2) c3⟩
  case rest =>
    obtain ⟨rfl, bel1⟩ := hcut
    clear bel
    have Cx := (Cell2.new wc (.int .i64 0) (.int .u64 0) 24).alloc (.cells #[.int .i64 0, .int .u64 0] 24)
    have Cy := Cell2.new (wc.alloc (.cells #[.int .i64 0, .int .u64 0] 24)) (.int .i64 0) (.int .u64 0) 24
    have en : (wc.alloc (.cells #[.int .i64 0, .int .u64 0] 24)).heap.size = wc.heap.size + 1 := by simp
    rw [en] at Cy
    have bel2 := (bel1.alloc bel1.size (.cells #[.int .i64 0, .int .u64 0] 24)).alloc (by rw [en]; have := bel1.size; omega) (.cells #[.int .i64 0, .int .u64 0] 24)
    obtain ⟨hr1, hr2, hr3⟩ := HR.out
    have s1 := bel1.size
    unfold maxLen at hr2
    have HR3 := Lib.hid hr3
    clear hr3 en
    obtain ⟨n, hn⟩ : ∃ n : Nat, n = min len 30 := ⟨_, rfl⟩
    have e1 : min (len : Int) 30 = (n : Int) := by omega
    have n1 : n ≤ 30 := by omega
    have n2 : n ≤ len := by omega
    clear hn
    go_wp2
    have hne : wc.heap.size + 1 ≠ wc.heap.size := by omega
    have hnx : w.heap.size ≤ wc.heap.size := s1
    have hny : w.heap.size ≤ wc.heap.size + 1 := by omega
    generalize (wc.alloc (.cells #[.int .i64 0, .int .u64 0] 24)).alloc (.cells #[.int .i64 0, .int .u64 0] 24) = W0 at *
    generalize wc.heap.size + 1 = ny at *
    generalize wc.heap.size = nx at *
    clear bel1 s1
    go_loopw [14, 75] (fun _ kv wr => RL w nx ny zs a n kv wr) (fun _ kv _ => n - (intOf kv).toNat)
    case atStart => exact ⟨0, Nat.zero_le _, rfl, by simp only [sumTo, Int.zero_mul, h0, l0]; exact Cx, by simp only [sumBack, Int.zero_mul, h0, l0]; exact Cy, bel2⟩
    case round =>
      clear Cx Cy bel2
      obtain ⟨k, hk, rfl, Cx, Cy, bel⟩ := hrel
      by_cases hlt : k < n
      · obtain ⟨bb, oo, rfl, hl1, hc1, hv1⟩ := HR3.out k (by omega)
        obtain ⟨bb', oo', hbo, hl2, hc2, hv2⟩ := HR3.out (n - 1 - k) (by omega)
        injection hbo with hbo
        injection hbo with hbo1 hbo2
        subst hbo1 hbo2
        have z1 : wr.cell? ⟨bb, oo + k, none⟩ = some (.int .i64 (zs.getD k 0)) := by rw [bel.cell (p := ⟨bb, oo + k, none⟩) hl1]; exact hc1
        have sx : sumTo zs k * a + zs.getD k 0 * a = sumTo zs (k + 1) * a := by simp only [sumTo]; rw [Int.add_mul]
        have sy : sumBack zs n k * a + zs.getD (n - 1 - k) 0 * a = sumBack zs n (k + 1) * a := by simp only [sumBack]; rw [Int.add_mul]
        obtain ⟨j, hj⟩ : ∃ j : Nat, j = n - 1 - k := ⟨_, rfl⟩
        rw [← hj] at hc2 hv2 sy
        have hjn : j < n := by omega
        have ej : (n : Int) - 1 - (k : Int) = (j : Int) := by omega
        have Z2 := Lib.hid hc2
        have SX := Lib.hid sx; have SY := Lib.hid sy; have EJ := Lib.hid ej
        clear hc1 hc2 sx sy hj ej
        generalize zs.getD k 0 = v1 at *
        generalize zs.getD j 0 = v2 at *
        generalize sumTo zs k * a = X at *
        generalize sumBack zs n k * a = Y at *
        have HX := Lib.hid Cx; have HY := Lib.hid Cy; have HB := Lib.hid bel
        obtain ⟨_, x1, x2, x3, x4⟩ := Cx
        clear Cy bel
        go_upto_region 11 with fail
        go_cut [14] (fun kv' wd => kv' = .int .i64 k ∧ Cell2 wd nx (.int .i64 (hiW (X + v1 * a))) (.int .u64 (loW (X + v1 * a))) ∧ Cell2 wd ny (.int .i64 (hiW Y)) (.int .u64 (loW Y)) ∧ Below w.heap.size w wd)
        case first =>
          go_region_with (first
            | (go_at_call 9; refine (mul_any v1 a hv1 ha _).mono ?_; rintro e m1 ⟨rfl, c1⟩; have CX1 := Cell2.below HX.out.drew c1; have CY1 := Cell2.below HY.out.drew c1; have BE1 := bstep HB.out.drew c1; obtain ⟨_, y1, y2, y3, y4⟩ := id CX1)
            | (go_at_call 14; refine (add_any X (v1 * a) _).mono ?_; rintro e m2 ⟨rfl, c2⟩; have CX2 := Cell2.below CX1 c2; have CY2 := Cell2.below CY1 c2; have BE2 := bstep BE1 c2; obtain ⟨_, t1, t2, t3, t4⟩ := id CX2))
          all_goals
            go_wp2
            go_meet
            case rel => exact ⟨rfl, CX2.set _ _, CY2.far (Ne.symm hne) _ _, (BE2.setCell hnx _).setCell hnx _⟩
        case rest =>
          obtain ⟨rfl, Cx, Cy, bel⟩ := hcut
          clear HX HY HB x1 x2 x3 x4 z1
          have z2 : wc.cell? ⟨bb, oo + j, none⟩ = some (.int .i64 v2) := by rw [bel.cell (p := ⟨bb, oo + j, none⟩) hl2]; exact Z2.out
          rw [SX.out] at Cx
          have HX := Lib.hid Cx; have HY := Lib.hid Cy; have HB := Lib.hid bel
          obtain ⟨_, x1, x2, x3, x4⟩ := Cy
          clear Cx bel Z2
          have i1 : IntKind.i64.wrap ((n : Int) - 1) = (n : Int) - 1 := by rw [IntKind.wrap_i64]; omega
          have i2 : IntKind.i64.wrap ((n : Int) - 1 - (k : Int)) = (j : Int) := by rw [EJ.out, IntKind.wrap_i64]; omega
          have i3 : (0 : Int) ≤ (j : Int) := by omega
          have i4 : (j : Int) < (n : Int) := by omega
          have ej := EJ.out
          have i5 : IntKind.i64.wrap (j : Int) = (j : Int) := by rw [IntKind.wrap_i64]; omega
          have i6 : wrap64 (j : Int) = (j : Int) := by unfold wrap64; omega
          go_wp2_with fail
          go_region_with (first
            | (go_at_call 9; refine (mul_any v2 a hv2 ha _).mono ?_; rintro e m1 ⟨rfl, c1⟩; have CX1 := Cell2.below HX.out.drew c1; have CY1 := Cell2.below HY.out.drew c1; have BE1 := bstep HB.out.drew c1; obtain ⟨_, y1, y2, y3, y4⟩ := id CY1)
            | (go_at_call 14; refine (add_any Y (v2 * a) _).mono ?_; rintro e m2 ⟨rfl, c2⟩; have CX2 := Cell2.below CX1 c2; have CY2 := Cell2.below CY1 c2; have BE2 := bstep BE1 c2; obtain ⟨_, t1, t2, t3, t4⟩ := id CY2))
          all_goals
            clear i1 i2 ej i5 i6
            go_wp2
            go_roundw
            case rel => exact ⟨k + 1, by omega, by go_num, CX2.far hne _ _, by rw [← SY.out]; exact CY2.set _ _, (BE2.setCell hny _).setCell hny _⟩
            case measure => simp [intOf]; omega
      · obtain rfl : k = n := by omega
        rw [sum_same] at Cy
        obtain ⟨_, x1, x2, x3, x4⟩ := Cx
        obtain ⟨_, y1, y2, y3, y4⟩ := Cy
        go_wp2_with fail
        refine (runs_any _).mono ?_
        rintro e m1 ⟨rfl, c1⟩
        go_wp2
        go_ret
        exact ⟨rfl, bstep bel c1⟩
end Go.Proofs.Ytnjegjmcfldpnaa
