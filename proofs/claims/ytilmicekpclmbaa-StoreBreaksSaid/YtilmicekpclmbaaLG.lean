/-
  The contracts of package leaf's two and Get: Get answers the leaf of which the bytes are the block, or none.
-/
import Derived.Test.YtilmicekpclmbaaZp
import Derived.Test.YtilmicekpclmbaaZm
import Derived.Deep.RegionHeldLaw
import Derived.IntWalk
import Derived.Handy
import Derived.Deep.DeepCutAuto
namespace Go.Proofs.Ytilmicekpclmbaa
set_option linter.unusedVariables false
set_option linter.unusedSimpArgs false
open Go.RowKit

theorem or_bytes (n x : Int) (x0 : 0 ≤ x) (x1 : x ≤ 255) (n0 : 0 ≤ n) (n1 : n ≤ 36028797018963967) : bits .or .i64 (n * 256) x = n * 256 + x ∧ bits .or .i64 x (n * 256) = n * 256 + x := by
  obtain ⟨k, rfl⟩ : ∃ k : Nat, n = k := ⟨n.toNat, by omega⟩
  obtain ⟨y, rfl⟩ : ∃ y : Nat, x = y := ⟨x.toNat, by omega⟩
  have f : ∀ a b : Int, bits .or .i64 a b = IntKind.i64.wrap ((BitVec.ofInt 64 a ||| BitVec.ofInt 64 b).toNat : Nat) := fun _ _ => rfl
  have t1 : (BitVec.ofInt 64 ((k : Int) * 256)).toNat = k <<< 8 := by
    rw [BitVec.toNat_ofInt, Nat.shiftLeft_eq]
    omega
  have t2 : (BitVec.ofInt 64 (y : Int)).toNat = y := by
    rw [BitVec.toNat_ofInt]
    omega
  have e := Nat.shiftLeft_add_eq_or_of_lt (b := y) (i := 8) (by omega) k
  have e2 : k <<< 8 = k * 256 := by rw [Nat.shiftLeft_eq]
  constructor
  · rw [f, BitVec.toNat_or, t1, t2, ← e, e2, IntKind.wrap_i64]
    omega
  · rw [f, BitVec.toNat_or, t1, t2, Nat.or_comm, ← e, e2, IntKind.wrap_i64]
    omega
set_option maxHeartbeats 400000 in
theorem two_any (N b o : Nat) (at_ n cap : Nat) (xs : List Int) (w : World) (hr : RdB w N (some ⟨b, o, none⟩) xs) (hl : xs.length = n) (hm : n ≤ 1000) (hat : at_ + 1 < n) :
    Calls Try.prog 70 #[.slice (some ⟨b, o, none⟩) n cap, .int .i64 at_] w fun e w' => e = .returned (.int .i64 (xs.getD at_ 0 + 256 * xs.getD (at_ + 1) 0)) ∧ ∃ m, w' = w.drewN m := by
  have h0 := hr at_ (by omega)
  have h1 := hr (at_ + 1) (by omega)
  obtain ⟨b', o', e, _, c0, u0⟩ := h0
  injection e with e; injection e with e1 e2; subst e1 e2
  obtain ⟨b', o', e, _, c1, u1⟩ := h1
  injection e with e; injection e with e1 e2; subst e1 e2
  clear hr hl
  generalize xs.getD at_ 0 = x at *
  generalize xs.getD (at_ + 1) 0 = y at *
  obtain ⟨x0, x1⟩ := id u0
  obtain ⟨y0, y1⟩ := id u1
  have i1 : (at_ : Int) + 1 < (n : Int) := by omega
  have i0 : (at_ : Int) < (n : Int) := by omega
  have i2 : ((at_ : Int) + 1).toNat = at_ + 1 := by omega
  have i3 : IntKind.i64.wrap ((at_ : Int) + 1) = (at_ : Int) + 1 := IntWalk.i64_in _ (by omega)
  have i4 : (0 : Int) ≤ (at_ : Int) + 1 := by omega
  go_enter Try.func70, Try.ntmps70
  go_wp2
  go_quiet (fail)
  go_wp2
  go_ret
  refine ⟨?_, nq, rfl⟩
  have e := (or_bytes y x x0 x1 y0 (by omega)).2
  show Ending.returned (.int .i64 (bits .or .i64 x (y * 256))) = _
  rw [e]
  congr 2
  omega
/-- What Get answers. -/
noncomputable def gotL (ys : List Int) : Lf := (getLf ys).getD Lf.zero
noncomputable def gotB (ys : List Int) : Bool := (getLf ys).isSome
theorem got_none {ys : List Int} (h : getLf ys = none) : gotL ys = Lf.zero ∧ gotB ys = false := by unfold gotL gotB; rw [h]; exact ⟨rfl, rfl⟩
theorem got_some {ys : List Int} {L : Lf} (h : getLf ys = some L) : gotL ys = L ∧ gotB ys = true := by unfold gotL gotB; rw [h]; exact ⟨rfl, rfl⟩
theorem got_ok {ys : List Int} (hu : ∀ k, k < ys.length → U8 (ys.getD k 0)) : (gotL ys).Ok := by
  cases h : getLf ys with
  | none => rw [(got_none h).1]; exact Lf.zero_ok
  | some L => rw [(got_some h).1]; exact (getLf_some hu h).1
def GetL (w : World) (ys : List Int) (e : Ending) (w' : World) : Prop := e = .returned (.tuple #[.agg (lv (gotL ys)).toArray, .bool (gotB ys)]) ∧ Below w.heap.size w w'
theorem RdB.u8s {w : World} {B : Nat} {A : Option Addr} {xs : List Int} (h : RdB w B A xs) : ∀ k, k < xs.length → U8 (xs.getD k 0) := fun k hk => by
  obtain ⟨_, _, _, _, _, hu⟩ := h k hk
  exact hu
/-- The leaf that Get builds, ahead of its load. -/
def numsOf (ys : List Int) : Lf := { unput ys with load := zeros 116 }
theorem nums_ok {ys : List Int} (hl : 124 ≤ ys.length) (hu : ∀ k, k < ys.length → U8 (ys.getD k 0)) : (numsOf ys).Ok := by
  have := unput_ok hl hu
  refine ⟨this.k, this.f, this.p, this.n, this.s, zeros_length _, fun j hj => ?_⟩
  exact Lf.zero_ok.u j hj
theorem zero_leaf_run (k f p n s : Int) : ∃ Z : Array Value, (∀ w, (zeroValue 91).run Try.prog w = .ok (.agg Z) w) ∧ Z.size = 121 ∧ (¬ Z = #[]) ∧ (((((Z.setIfInBounds 0 (.int .i64 k)).setIfInBounds 1 (.int .i64 f)).setIfInBounds 2 (.int .i64 p)).setIfInBounds 3 (.int .i64 n)).setIfInBounds 4 (.int .i64 s) = (Value.int .i64 k :: .int .i64 f :: .int .i64 p :: .int .i64 n :: .int .i64 s :: vals (zeros 116)).toArray) ∧ Hid (Z = (lv Lf.zero).toArray) :=
  ⟨_, (zero_of_info Try.zero_leaf).1, by rw [List.size_toArray, lv_len Lf.zero_ok], by unfold lv; simp, by simp [lv, Lf.zero, zeros], Lib.hid rfl⟩
set_option maxRecDepth 100000 in
set_option maxHeartbeats 4000000 in
theorem get_any (N : Nat) (A : Option Addr) (n cap : Nat) (ys : List Int) (hl : ys.length = n) (hm : n ≤ 1000) (w : World) (hr : RdB w N A ys) (hN : N ≤ w.heap.size) (hx : n ≤ cap) :
    Calls Try.prog 53 #[.slice A n cap] w (GetL w ys) := by
  have HR := Lib.hid hr; have HL := Lib.hid hl
  have UU := Lib.hid hr.u8s
  clear hr hl
  go_enter Try.func53, Try.ntmps53
  go_wp2_with (with_reducible refine alloc_leaf rfl rfl ?_)
  intro w1 l1 b1 s1
  obtain ⟨r, hr⟩ : ∃ r, r = w.heap.size := ⟨_, rfl⟩
  rw [← hr] at l1 ⊢
  have L1 := Lib.hid l1; have B1 := Lib.hid b1
  have hrw : w.heap.size ≤ r := by omega
  have hr1 : r < w1.heap.size := l1.lt
  clear hr b1 s1 l1
  by_cases h128 : n = 128
  · subst h128
    have RD1 := Lib.hid (HR.out.below (B1.out.mono hN))
    have GD := Lib.hid (good_any N A 128 cap ys HL.out (by decide) w1 RD1.out (by have := B1.out.size; omega) (by rw [HL.out]; exact hx))
    go_wp2_with fail
    refine GD.out.mono ?_
    rintro e w2 ⟨rfl, b2⟩
    have L2 := Lib.hid (L1.out.below b2)
    have B2 := Lib.hid (bstep B1.out b2)
    have RD2 := Lib.hid (RD1.out.below (b2.mono (by have := B1.out.size; omega)))
    have hr2 : r < w2.heap.size := L2.out.lt
    clear b2 GD L1 B1 RD1 hr1
    cases hg : goodB ys
    · have GN := Lib.hid (got_none (getLf_bad hg))
      clear hg
      go_wp2_with (first | (with_reducible refine build_zero rfl rfl ?_) | (with_reducible refine store_leaf rfl _ _ rfl r Lf.zero Lf.zero L2.out Lf.zero_ok rfl rfl ?_))
      intro w3 l3 k3 s3
      have L3 := Lib.hid l3
      have B3 := Lib.hid (k3.below (fun k hk => by omega) B2.out B2.out.size)
      clear l3 k3 s3
      go_wp2
      refine ret_leaf 2 3 rfl rfl rfl L3.out rfl ⟨?_, B3.out⟩
      rw [GN.out.1, GN.out.2]
    · have GY := Lib.hid hg
      clear hg
      have b9 : ∃ b9 o9, A = some ⟨b9, o9, none⟩ := by
        obtain ⟨b9, o9, e, _⟩ := RD2.out 0 (by rw [HL.out]; decide)
        exact ⟨b9, o9, e⟩
      obtain ⟨b9, o9, rfl⟩ := b9
      have cc : ∀ k, k < 128 → b9 < N ∧ w2.cell? ⟨b9, o9 + k, none⟩ = some (.int .u8 (ys.getD k 0)) := fun k hk => by
        obtain ⟨b', o', e, h1, h2, _⟩ := RD2.out k (by rw [HL.out]; exact hk)
        injection e with e; injection e with e1 e2; subst e1 e2
        exact ⟨h1, h2⟩
      have c22 := (cc 122 (by decide)).2
      have c23 := (cc 123 (by decide)).2
      have hb9 : b9 < w2.heap.size := by have := (cc 0 (by decide)).1; have := B2.out.size; omega
      have hN2 : N ≤ w2.heap.size := by have := B2.out.size; omega
      clear cc
      have u22 := UU.out 122 (by rw [HL.out]; decide)
      have u23 := UU.out 123 (by rw [HL.out]; decide)
      obtain ⟨u220, u221⟩ := u22
      obtain ⟨u230, u231⟩ := u23
      obtain ⟨y6, hy6⟩ : ∃ y, y = ys.getD 116 0 + 256 * ys.getD (116 + 1) 0 := ⟨_, rfl⟩
      obtain ⟨y8, hy8⟩ : ∃ y, y = ys.getD 118 0 + 256 * ys.getD (118 + 1) 0 := ⟨_, rfl⟩
      obtain ⟨y0, hy0⟩ : ∃ y, y = ys.getD 120 0 + 256 * ys.getD (120 + 1) 0 := ⟨_, rfl⟩
      have T6 : Hid (∀ W, RdB W N (some ⟨b9, o9, none⟩) ys → Calls Try.prog 70 #[.slice (some ⟨b9, o9, none⟩) 128 cap, .int .i64 116] W fun e w' => e = .returned (.int .i64 y6) ∧ ∃ m, w' = W.drewN m) := Lib.hid (fun W hr => by rw [hy6]; exact two_any N b9 o9 116 128 cap ys W hr HL.out (by decide) (by decide))
      have T8 : Hid (∀ W, RdB W N (some ⟨b9, o9, none⟩) ys → Calls Try.prog 70 #[.slice (some ⟨b9, o9, none⟩) 128 cap, .int .i64 118] W fun e w' => e = .returned (.int .i64 y8) ∧ ∃ m, w' = W.drewN m) := Lib.hid (fun W hr => by rw [hy8]; exact two_any N b9 o9 118 128 cap ys W hr HL.out (by decide) (by decide))
      have T0 : Hid (∀ W, RdB W N (some ⟨b9, o9, none⟩) ys → Calls Try.prog 70 #[.slice (some ⟨b9, o9, none⟩) 128 cap, .int .i64 120] W fun e w' => e = .returned (.int .i64 y0) ∧ ∃ m, w' = W.drewN m) := Lib.hid (fun W hr => by rw [hy0]; exact two_any N b9 o9 120 128 cap ys W hr HL.out (by decide) (by decide))
      have VE : Hid (lv (numsOf ys) = .int .i64 (ys.getD 123 0) :: .int .i64 y6 :: .int .i64 y8 :: .int .i64 y0 :: .int .i64 (ys.getD 122 0) :: vals (zeros 116)) := Lib.hid (by rw [hy6, hy8, hy0]; rfl)
      obtain ⟨Z, hz, hzs, hzn, hzf, ZE⟩ := zero_leaf_run (ys.getD 123 0) y6 y8 y0 (ys.getD 122 0)
      obtain ⟨V, hV⟩ : ∃ V, V = lv (numsOf ys) := ⟨_, rfl⟩
      rw [← VE.out, ← hV] at hzf
      have NK : Hid ((numsOf ys).Ok) := Lib.hid (nums_ok (by rw [HL.out]; decide) UU.out)
      have hvl : V.length = 121 := by rw [hV]; exact lv_len NK.out
      have st : ∀ k, (storeCells ⟨w2.heap.size, 0, none⟩ V 0).run Try.prog ((w2.drewN k).alloc (.cells Z 91)) = .ok () ((w2.drewN k).alloc (.cells V.toArray 91)) := fun k => by
        rw [hV]
        exact run_storeCells_new (P := Try.prog) (w2.drewN k) 91 Z (lv (numsOf ys)).toArray (by rw [Try.size_leaf, List.size_toArray, lv_len NK.out]) (by rw [hzs, List.size_toArray, lv_len NK.out]) (all_oneCell_toArray (lv_one _))
      have dn : ∀ (W : World) (O : Obj) (m : Nat), (W.alloc O).drewN m = (W.drewN m).alloc O := fun _ _ _ => rfl
      have st1 : (storeCells ⟨w2.heap.size, 0, none⟩ V 0).run Try.prog (w2.drew.alloc (.cells Z 91)) = .ok () (w2.drew.alloc (.cells V.toArray 91)) := st 1
      have HV := Lib.hid hV
      have w22 : IntKind.i64.wrap (ys.getD 122 0) = ys.getD 122 0 := IntWalk.i64_in _ (by omega)
      have w23 : IntKind.i64.wrap (ys.getD 123 0) = ys.getD 123 0 := IntWalk.i64_in _ (by omega)
      clear hV
      clear hy6 hy8 hy0
      generalize ys.getD 122 0 = y2 at *
      generalize ys.getD 123 0 = y3 at *
      go_upto_region 3 with fail
      go_cut [4] (fun v wd => v = .pointer (some ⟨w2.heap.size, 0, none⟩) ∧ LfAt wd w2.heap.size (numsOf ys) ∧ Below w2.heap.size w2 wd)
      case first =>
        go_region_held_law (fun w' => w'.cell? ⟨b9, o9 + 122, none⟩ = some (.int .u8 y2) ∧ w'.cell? ⟨b9, o9 + 123, none⟩ = some (.int .u8 y3)) (first | exact ⟨c22, c23⟩ | go_keep)
          (first
            | (go_at_call 70; (first | (with_reducible refine (T6.out _ (RD2.out.below (by repeat' (first | (with_reducible exact Below.refl _ _) | (with_reducible refine below_drewN ?_ _) | (with_reducible refine Below.drew ?_) | (with_reducible refine Below.alloc ?_ ?_ _) | go_size)))).mono ?_) | (with_reducible refine (T8.out _ (RD2.out.below (by repeat' (first | (with_reducible exact Below.refl _ _) | (with_reducible refine below_drewN ?_ _) | (with_reducible refine Below.drew ?_) | (with_reducible refine Below.alloc ?_ ?_ _) | go_size)))).mono ?_) | (with_reducible refine (T0.out _ (RD2.out.below (by repeat' (first | (with_reducible exact Below.refl _ _) | (with_reducible refine below_drewN ?_ _) | (with_reducible refine Below.drew ?_) | (with_reducible refine Below.alloc ?_ ?_ _) | go_size)))).mono ?_)); rintro e wx ⟨rfl, m, rfl⟩))
        all_goals
          clear st st1 dn hz hzf w22 w23
          go_wp2
          go_meet
          case rel => exact ⟨rfl, by rw [HV.out]; exact LfAt.new (w2.drewN _) NK.out, (below_drewN (Below.refl _ _) _).alloc (Nat.le_refl _) _⟩
      case rest =>
        obtain ⟨rfl, l3, b3⟩ := hcut
        have U2 : Hid (unput ys = { numsOf ys with load := ys.take 116 }) := Lib.hid rfl
        have L3 := Lib.hid l3
        have R3 := Lib.hid (L2.out.below b3)
        have B3 := Lib.hid (bstep B2.out b3)
        have RD3 := Lib.hid (RD2.out.below (b3.mono hN2))
        obtain ⟨l, hl⟩ : ∃ l, l = w2.heap.size := ⟨_, rfl⟩
        have hrl : r < l := by omega
        have hlw : w.heap.size ≤ l := by omega
        have hbl : b9 < l := by omega
        rw [← hl] at L3 ⊢
        clear l3 b3 hl L2 B2 RD2 st st1 dn hz hzf w22 w23 T6 T8 T0 VE ZE HV c22 c23
        obtain ⟨X, hX⟩ : ∃ X, X = ys.take 116 := ⟨_, rfl⟩
        have XL : Hid (X.length = 116) := Lib.hid (by rw [hX, List.length_take, HL.out]; rfl)
        have XR : Hid (RdB wc N (some ⟨b9, o9, none⟩) X) := Lib.hid (by rw [hX]; exact RD3.out.take 116)
        have HX := Lib.hid hX
        clear hX
        have hsz : (Try.prog.info? 5).map (·.size) = some 1 := by kernel_rfl
        go_wp2_with (with_reducible refine wpList_copy_splice rfl _ _ 30 30 rfl 5 Try.underlying30 hsz (some ⟨l, 5, none⟩) (some ⟨b9, o9, none⟩) 116 116 128 cap rfl rfl l 5 (lv (numsOf ys)) 91 L3.out.heap (vals X) ?c1 ?c2 ?c3 ?c4 l wc (Below.refl _ _) (Nat.le_refl _) ?_)
        case c1 => rw [vals_length, XL.out]
        case c2 => exact fun _ j v hv => (by have := XR.out.news j v hv; rw [Addr.add_mid] at this; exact this)
        case c3 => rw [vals_length, XL.out, lv_len NK.out]; decide
        case c4 => exact vals_one _
        intro w4 hg4 hb4
        have SE : Hid (splice (lv (numsOf ys)) 5 (vals X) = lv (unput ys)) := Lib.hid (by
          rw [U2.out, ← HX.out]
          unfold splice lv
          rw [vals_length, XL.out]
          show _ :: _ :: _ :: _ :: _ :: (vals X ++ (vals (numsOf ys).load).drop 116) = _
          rw [List.drop_eq_nil_of_le (by rw [vals_length, NK.out.l]; exact Nat.le_refl _), List.append_nil])
        have OK : Hid ((unput ys).Ok) := Lib.hid (unput_ok (by rw [HL.out]; decide) UU.out)
        have L4 : Hid (LfAt w4 l (unput ys)) := Lib.hid ⟨by have := hg4.out; rw [SE.out] at this; exact this, OK.out⟩
        have R4 : Hid (LfAt w4 r Lf.zero) := Lib.hid (R3.out.same (hb4.block r hrl))
        have B4 : Hid (Below w.heap.size w w4) := Lib.hid (B3.out.trans (hb4.mono hlw))
        have RT := Lib.hid (right_any (unput ys) OK.out w4)
        clear hg4 hb4 L3 R3 B3 RD3 XL XR HX SE U2 hsz
        go_wp2_with (with_reducible refine load_leaf rfl _ rfl l (unput ys) L4.out rfl ?_)
        refine RT.out.mono ?_
        rintro e w5 ⟨rfl, b5⟩
        have L5 := Lib.hid (L4.out.below b5)
        have R5 := Lib.hid (R4.out.below b5)
        have B5 := Lib.hid (bstep B4.out b5)
        clear b5 L4 R4 B4 RT
        cases hq : (unput ys).rt
        · have GN := Lib.hid (got_none (ys := ys) (by unfold getLf; rw [if_neg (fun e => (Lf.rt_no OK.out).1 hq e.2.2)]))
          clear hq
          go_wp2_with (first | (with_reducible refine build_zero rfl rfl ?_) | (with_reducible refine store_leaf rfl _ _ rfl r Lf.zero Lf.zero R5.out Lf.zero_ok rfl rfl ?_))
          intro w6 l6 k6 s6
          have L6 := Lib.hid l6
          have B6 := Lib.hid (k6.below (fun k hk => by omega) B5.out B5.out.size)
          clear l6 k6 s6
          go_wp2
          refine ret_leaf 2 3 rfl rfl rfl L6.out rfl ⟨?_, B6.out⟩
          rw [GN.out.1, GN.out.2]
        · have GN := Lib.hid (got_some (ys := ys) (L := unput ys) (by unfold getLf; rw [if_pos ⟨HL.out, GY.out, (Lf.rt_iff OK.out).1 hq⟩]))
          clear hq
          go_wp2_with (first | (with_reducible refine load_leaf rfl _ rfl l (unput ys) L5.out rfl ?_) | (with_reducible refine store_leaf rfl _ _ rfl r Lf.zero (unput ys) R5.out OK.out rfl rfl ?_))
          intro w6 l6 k6 s6
          have L6 := Lib.hid l6
          have B6 := Lib.hid (k6.below (fun k hk => by omega) B5.out B5.out.size)
          clear l6 k6 s6
          go_wp2
          refine ret_leaf 2 3 rfl rfl rfl L6.out rfl ⟨?_, B6.out⟩
          rw [GN.out.1, GN.out.2]
  · have GN := Lib.hid (got_none (getLf_len (ys := ys) (by rw [HL.out]; exact h128)))
    have t1 : ((n : Int) != 128) = true := by simp; omega
    clear h128
    go_wp2_with (first | (with_reducible refine build_zero rfl rfl ?_) | (with_reducible refine store_leaf rfl _ _ rfl r Lf.zero Lf.zero L1.out Lf.zero_ok rfl rfl ?_))
    intro w3 l3 k3 s3
    have L3 := Lib.hid l3
    have B3 := Lib.hid (k3.below (fun k hk => by omega) B1.out B1.out.size)
    clear l3 k3 s3
    go_wp2
    refine ret_leaf 2 3 rfl rfl rfl L3.out rfl ⟨?_, B3.out⟩
    rw [GN.out.1, GN.out.2]
end Go.Proofs.Ytilmicekpclmbaa
