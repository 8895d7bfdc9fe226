/-
  The walk of the statement MoneyTells: for every four ints and every slice of ints the call returns true; nothing that was in memory turns.
-/
import Derived.Test.YtddlannblopbeaaMRuns
import Derived.Test.YtddlannblopbeaaMB
import Derived.Test.YtddlannblopbeaaWSums
import Derived.Deep.DeepCutAuto
import Derived.Deep.RegionWith
namespace Go.Proofs.Ytddlannblopbeaa
set_option linter.unusedVariables false
set_option linter.unusedSimpArgs false
open Go.RowKit

theorem share_scale (n p : Int) (hn : I64 n) : scaleV n (partI p) 10000 = shareI n p ∧ scaleB n (partI p) 10000 = true := by
  have h := (share_I64 (p := p) hn).1
  rcases scale_cases n (partI p) 10000 with ⟨h1, e1, e2⟩ | ⟨_, g, e1, e2⟩ | ⟨_, g, e1, e2⟩
  · omega
  · exact ⟨e2, e1⟩
  · exact absurd h g
/-- What holds at the head of the loop: both sums, so far. -/
def TL (B : World) (ns nw : Nat) (zs : List Int) (n : Nat) (kv : Value) (wr : World) : Prop :=
  ∃ k : Nat, k ≤ n ∧ kv = .int .i64 k ∧ Cell2 wr ns (.int .i64 (hiW (sumTo zs k))) (.int .u64 (loW (sumTo zs k))) ∧ Cell2 wr nw (.int .i64 (hiW (sumTo zs k))) (.int .u64 (loW (sumTo zs k))) ∧ Below B.heap.size B wr

set_option maxRecDepth 100000 in
set_option maxHeartbeats 2000000 in
theorem mtells_any (a b d p : Int) (A : Option Addr) (len cap : Nat) (zs : List Int) (w : World) (ha : I64 a) (hb : I64 b) (hd : I64 d) (hp : I64 p) (hr : RA w A len cap zs) :
    Calls Try.prog 4 #[.int .i64 a, .int .i64 b, .int .i64 d, .int .i64 p, .slice A len cap] w fun e w' => e = .returned (.bool true) ∧ Below w.heap.size w w' := by
  have HR := Lib.hid hr
  clear hr
  have h0 : hiW 0 = 0 := by decide
  have l0 : loW 0 = 0 := by decide
  have hP : I64 (partI p) := by have := partI_bd p; unfold I64; omega
  have k1 := fun w0 => scale_any a b d ha hb hd w0
  have k2 := fun w0 => rscale_any a b d ha hb hd w0
  have k3 := fun w0 => split_any a p ha w0
  have k4 := fun w0 => rscale_any a (partI p) 10000 ha hP ⟨by decide, by decide⟩ w0
  rw [(share_scale a p ha).1, (share_scale a p ha).2] at k4
  have hw := (share_I64 (p := p) ha).2
  unfold partI at k4
  generalize shareI a p = S at *
  generalize scaleV a b d = V at *
  generalize scaleB a b d = X at *
  have K1 := Lib.hid k1; have K2 := Lib.hid k2; have K3 := Lib.hid k3; have K4 := Lib.hid k4
  clear k1 k2 k3 k4 hP
  go_enter Try.func4, Try.ntmps4
  go_wp2_with fail
  refine (K1.out _).mono ?_
  rintro e w1 ⟨rfl, b1⟩
  go_wp2_with fail
  refine (K2.out _).mono ?_
  rintro e w2 ⟨rfl, b2⟩
  go_wp2_with fail
  refine (K3.out _).mono ?_
  rintro e w3 ⟨rfl, b3⟩
  go_wp2_with fail
  refine (K4.out _).mono ?_
  rintro e w4 ⟨rfl, b4⟩
  have bel := bstep (bstep (bstep b1 b2) b3) b4
  clear b1 b2 b3 b4
  have Cx := (Cell2.new w4 (.int .i64 0) (.int .u64 0) 30).alloc (.cells #[.int .i64 0, .int .u64 0] 28)
  have Cy := Cell2.new (w4.alloc (.cells #[.int .i64 0, .int .u64 0] 30)) (.int .i64 0) (.int .u64 0) 28
  have en : (w4.alloc (.cells #[.int .i64 0, .int .u64 0] 30)).heap.size = w4.heap.size + 1 := by simp
  rw [en] at Cy
  have bel2 := (bel.alloc bel.size (.cells #[.int .i64 0, .int .u64 0] 30)).alloc (by rw [en]; have := bel.size; omega) (.cells #[.int .i64 0, .int .u64 0] 28)
  obtain ⟨hr1, hr2, hr3⟩ := HR.out
  have hnx := bel.size
  unfold maxLen at hr2
  have HR3 := Lib.hid hr3
  clear hr3 en HR bel
  obtain ⟨n, hn⟩ : ∃ n : Nat, n = min len 40 := ⟨_, rfl⟩
  have n1 : n ≤ 40 := by omega
  have n2 : n ≤ len := by omega
  have n3 : n < len → n = 40 := by omega
  clear hn
  have hi64 : ∀ k, k < n → I64 (zs.getD k 0) := fun k hk => by obtain ⟨_, _, _, _, _, h⟩ := HR3.out k (by omega); exact h
  have HI := Lib.hid (sum_W128 zs n hi64 n (Nat.le_refl _) (by omega))
  clear hi64
  go_wp2
  have hne : w4.heap.size + 1 ≠ w4.heap.size := by omega
  have hny : w.heap.size ≤ w4.heap.size + 1 := by omega
  generalize (w4.alloc (.cells #[.int .i64 0, .int .u64 0] 30)).alloc (.cells #[.int .i64 0, .int .u64 0] 28) = W0 at *
  generalize w4.heap.size + 1 = ny at *
  generalize w4.heap.size = nx at *
  have N3 := Lib.hid n3
  clear n3
  go_loopw [21] (fun kv wr => TL w nx ny zs n kv wr) (fun kv _ => n - (intOf kv).toNat)
  case atStart => exact ⟨0, Nat.zero_le _, rfl, by simp only [sumTo, h0, l0]; exact Cx, by simp only [sumTo, h0, l0]; exact Cy, bel2⟩
  case round =>
    clear Cx Cy bel2
    obtain ⟨k, hk, rfl, Cx, Cy, bel⟩ := hrel
    by_cases hlt : k < n
    · obtain ⟨bb, oo, rfl, hl1, hc1, hv1⟩ := HR3.out k (by omega)
      have z1 : wr.cell? ⟨bb, oo + k, none⟩ = some (.int .i64 (zs.getD k 0)) := by rw [bel.cell (p := ⟨bb, oo + k, none⟩) hl1]; exact hc1
      have sx : sumTo zs k + zs.getD k 0 = sumTo zs (k + 1) := rfl
      have SX := Lib.hid sx; have Z1 := Lib.hid hc1
      clear sx hc1
      have c1 : (k : Int) < (len : Int) := by omega
      have c2 : (k : Int) < 40 := by omega
      generalize zs.getD k 0 = v at *
      generalize sumTo zs k = Y at *
      have HX := Lib.hid Cx; have HY := Lib.hid Cy; have HB := Lib.hid bel
      clear Cx Cy bel
      go_wp2_with fail
      refine (sadd_any Y v hv1 nx _ HX.out).mono ?_
      rintro e wa ⟨rfl, sa⟩
      have Cx := sa.cell HX.out
      have Cy := sa.far (Ne.symm hne) HY.out
      have bel := sa.below HB.out hnx
      have z2 : wa.cell? ⟨bb, oo + k, none⟩ = some (.int .i64 v) := by rw [bel.cell (p := ⟨bb, oo + k, none⟩) hl1]; exact Z1.out
      clear HX HY HB sa z1
      have HX := Lib.hid Cx; have HY := Lib.hid Cy; have HB := Lib.hid bel
      clear Cx bel
      obtain ⟨_, x1, x2, x3, x4⟩ := Cy
      go_wp2_with fail
      go_region_with (first
        | (go_at_call 14; refine (rof_any v hv1 _).mono ?_; rintro e m1 ⟨rfl, c1⟩; have CX1 := Cell2.below HX.out.drew c1; have CY1 := Cell2.below HY.out.drew c1; have BE1 := bstep HB.out.drew c1; obtain ⟨_, y1, y2, y3, y4⟩ := id CY1)
        | (go_at_call 13; refine (radd_any Y v _).mono ?_; rintro e m2 ⟨rfl, c2⟩; have CX2 := Cell2.below CX1 c2; have CY2 := Cell2.below CY1 c2; have BE2 := bstep BE1 c2; obtain ⟨_, t1, t2, t3, t4⟩ := id CY2))
      all_goals
        go_wp2
        go_roundw
        case rel => exact ⟨k + 1, by omega, by go_num, by rw [← SX.out]; exact CX2.far hne _ _, by rw [← SX.out]; exact CY2.set _ _, (BE2.setCell hny _).setCell hny _⟩
        case measure => simp [intOf]; omega
    · obtain rfl : k = n := by omega
      have HI' := HI.out
      generalize sumTo zs k = Y at *
      have HX := Lib.hid Cx; have HY := Lib.hid Cy
      obtain ⟨_, y1, y2, y3, y4⟩ := Cy
      clear Cx
      have t1 : IntKind.i64.wrap (a - S) = a - S := by rw [IntKind.wrap_i64]; unfold I64 at hw; omega
      have t1' : wrap64 (a - S) = a - S := by unfold wrap64; unfold I64 at hw; omega
      have key : (k < len ∧ (40 : Int) < (len : Int) ∧ k = 40) ∨ (¬ k < len ∧ decide ((k : Int) < (len : Int)) = false) := by
        by_cases hl : k < len
        · exact Or.inl ⟨hl, by have := N3.out hl; omega, N3.out hl⟩
        · exact Or.inr ⟨hl, by simp; omega⟩
      rcases key with ⟨c0, c1, rfl⟩ | ⟨c0, c1⟩
      all_goals
        go_wp2_with fail
        refine (svalue_any Y HI' nx _ HX.out).mono ?_
        rintro e w5 ⟨rfl, b5⟩
        have CX5 := HX.out.below b5
        have CY5 := HY.out.below b5
        have bel5 := bstep bel b5
        obtain ⟨_, x1, x2, x3, x4⟩ := id CY5
        go_wp2_with fail
        refine (rint_any Y HI' _).mono ?_
        rintro e w6 ⟨rfl, b6⟩
        have CX6 := CX5.below b6
        have CY6 := CY5.below b6
        have bel6 := bstep bel5 b6
        have C6 := Lib.hid CX6
        clear bel bel5 CX5 CY5 x1 x2 x3 x4 y1 y2 y3 y4 HX HY b5 b6 CX6
        obtain ⟨g0, g1, g2, _, _⟩ := CY6
        generalize intV Y = I at *
        generalize intB Y = J at *
        go_wp2_with fail
        go_region_held3 (fun w' => Below w6.heap.size w6 w' ∧ w'.cell? ⟨ny, 0, none⟩ = some (.int .i64 (hiW Y)) ∧ w'.cell? ⟨ny, 1, none⟩ = some (.int .u64 (loW Y))) (first | exact keepS (by assumption) (by assumption) g0 | exact ⟨(Below.refl _ _).drew, g1, g2⟩)
          (first
            | (go_at_call 16; obtain ⟨hq, _⟩ := ‹Below w6.heap.size w6 _ ∧ _›; (with_reducible refine (swide_any Y nx _ (C6.out.below hq)).mono ?_); rintro e w' ⟨rfl, hbb⟩)
            | (go_at_call 3; (with_reducible refine (runs_any _).mono ?_); rintro e w' ⟨rfl, hbb⟩))
        obtain ⟨bW, -, -⟩ := ‹Below w6.heap.size w6 _ ∧ _›
        go_wp2
        go_ret
        exact ⟨rfl, bstep bel6 bW⟩
end Go.Proofs.Ytddlannblopbeaa
