/-
  The document's own GetLeaf (sheafref5): the leaf of which the bytes are the block, or none.
-/
import Derived.Test.YtkmlajlnpfoepaaLRc
import Derived.Test.YtkmlajlnpfoepaaLG
import Derived.Deep.QuietTactic
import Derived.BigQuiet
namespace Go.Proofs.Ytkmlajlnpfoepaa
set_option linter.unusedVariables false
set_option linter.unusedSimpArgs false
open Go.RowKit

/-- Closed, said by the number of the last four bytes. -/
theorem good_num {ys : List Int} (hl : ys.length = 128) (hu : ∀ k, k < ys.length → U8 (ys.getD k 0)) : goodB ys = decide (numL (ys.drop 124) = wrd (crc (ys.take 124))) := by
  obtain ⟨d0, d1, d2, d3, hd, ⟨u0, u1, u2, u3⟩, r0, r1, r2, r3⟩ := bytes_of (crc (ys.take 124))
  have g := good_last ys 124 d0 d1 d2 d3 (by rw [hl]) hu hd
  have n0 := numL_drop ys 124 (by omega)
  have n1 := numL_drop ys 125 (by omega)
  have n2 := numL_drop ys 126 (by omega)
  have n3 := numL_drop ys 127 (by omega)
  have n4 : numL (ys.drop 128) = 0 := by rw [List.drop_eq_nil_of_le (by omega)]; rfl
  rw [Bool.eq_iff_iff, g, decide_eq_true_eq]
  have b := u32_bd (crc (ys.take 124))
  have v0 := hu 124 (by omega); have v1 := hu 125 (by omega); have v2 := hu 126 (by omega); have v3 := hu 127 (by omega)
  unfold U8 at u0 u1 u2 u3 v0 v1 v2 v3
  generalize wrd (crc (ys.take 124)) = C at *
  generalize numL (ys.drop 124) = M0 at *
  generalize numL (ys.drop (124 + 1)) = M1 at *
  have n1 : M1 = numL (ys.drop (126)) * 256 + ys.getD 125 0 := n1
  generalize numL (ys.drop 126) = M2 at *
  have n2 : M2 = numL (ys.drop (127)) * 256 + ys.getD 126 0 := n2
  generalize numL (ys.drop 127) = M3 at *
  have n3 : M3 = numL (ys.drop (128)) * 256 + ys.getD 127 0 := n3
  rw [n4] at n3
  have e1 : ys.getD (124 + 1) 0 = ys.getD 125 0 := rfl
  have e2 : ys.getD (124 + 2) 0 = ys.getD 126 0 := rfl
  have e3 : ys.getD (124 + 3) 0 = ys.getD 127 0 := rfl
  rw [e1, e2, e3]
  omega
theorem num_two {ys : List Int} (k : Nat) (hk : k + 1 < ys.length) : numL ((ys.drop k).take 2) = ys.getD k 0 + 256 * ys.getD (k + 1) 0 := by
  have e : (ys.drop k).take 2 = [ys.getD k 0, ys.getD (k + 1) 0] := by
    rw [List.drop_eq_getElem_cons (by omega), List.drop_eq_getElem_cons (by omega), List.getD_eq_getElem?_getD, List.getD_eq_getElem?_getD, List.getElem?_eq_getElem (by omega), List.getElem?_eq_getElem (by omega)]
    rfl
  rw [e]
  show ((0 : Int) * 256 + ys.getD (k + 1) 0) * 256 + ys.getD k 0 = _
  omega
theorem number_two (N b o k cap : Nat) (ys : List Int) (W : World) (hr : RdB W N (some ⟨b, o, none⟩) ys) (hk : k + 1 < ys.length) (z : Nat) (hz : z = o + k) :
    Calls Try.prog 21 #[.slice (some ⟨b, z, none⟩) 2 cap] W fun e w' => e = .returned (.int .i64 (ys.getD k 0 + 256 * ys.getD (k + 1) 0)) ∧ W = w' := by
  rw [← num_two k hk, hz]
  exact number_any N _ 2 cap _ (by rw [List.length_take, List.length_drop]; omega) (by decide) W ((hr.drop k).take 2)
theorem zero_leaf_run' (k f p n s : Int) : ∃ Z : Array Value, (∀ w, (zeroValue 24).run Try.prog w = .ok (.agg Z) w) ∧ Z.size = 121 ∧ (¬ Z = #[]) ∧ (((((Z.setIfInBounds 1 (.int .i64 f)).setIfInBounds 2 (.int .i64 p)).setIfInBounds 3 (.int .i64 n)).setIfInBounds 4 (.int .i64 s)).setIfInBounds 0 (.int .i64 k) = (Value.int .i64 k :: .int .i64 f :: .int .i64 p :: .int .i64 n :: .int .i64 s :: vals (zeros 116)).toArray) ∧ Hid (Z = (lv Lf.zero).toArray) :=
  ⟨_, (zero_of_info Try.zero_leaf).1, by rw [List.size_toArray, lv_len Lf.zero_ok], by unfold lv; simp, by simp [lv, Lf.zero, zeros], Lib.hid rfl⟩
/-- So many bytes of the load are laid. -/
def partOf (ys : List Int) (k : Nat) : Lf := { unput ys with load := ys.take k ++ zeros (116 - k) }
theorem part_zero (ys : List Int) : partOf ys 0 = numsOf ys := by unfold partOf numsOf; rw [List.take_zero, List.nil_append]
theorem part_all (ys : List Int) : partOf ys 116 = unput ys := by
  unfold partOf
  rw [show zeros (116 - 116) = [] from rfl, List.append_nil]
  rfl
theorem part_next {ys : List Int} (k : Nat) (hk : k < 116) (hl : ys.length = 128) : { partOf ys k with load := (partOf ys k).load.set k (ys.getD k 0) } = partOf ys (k + 1) := by
  unfold partOf
  have e : (ys.take k ++ zeros (116 - k)).set k (ys.getD k 0) = ys.take (k + 1) ++ zeros (116 - (k + 1)) := by
    have lk : (ys.take k).length = k := by rw [List.length_take]; omega
    rw [List.set_append_right _ _ (by omega), lk, Nat.sub_self]
    obtain ⟨m, hm⟩ : ∃ m, 116 - k = m + 1 := ⟨115 - k, by omega⟩
    have e2 : 116 - (k + 1) = m := by omega
    rw [hm, e2, List.take_succ_eq_append_getElem (by omega), List.append_assoc]
    unfold zeros
    rw [List.replicate_succ, List.set_cons_zero, List.getD_eq_getElem?_getD, List.getElem?_eq_getElem (by omega)]
    rfl
  show ({ unput ys with load := (ys.take k ++ zeros (116 - k)).set k (ys.getD k 0) } : Lf) = _
  rw [e]
set_option maxRecDepth 100000 in
set_option maxHeartbeats 4000000 in
theorem rget_any (N : Nat) (A : Option Addr) (n cap : Nat) (ys : List Int) (hl : ys.length = n) (hm : n ≤ 1000) (w : World) (hr : RdB w N A ys) (hN : N ≤ w.heap.size) (hx : n ≤ cap) :
    Calls Try.prog 12 #[.slice A n cap] w (GetL w ys) := by
  have HR := Lib.hid hr; have HL := Lib.hid hl
  have UU := Lib.hid hr.u8
  clear hr hl
  go_enter Try.func12, Try.ntmps12
  go_wp2_with (with_reducible refine alloc_leaf rfl rfl ?_)
  intro w1 l1 b1 s1
  obtain ⟨r, hr⟩ : ∃ r, r = w.heap.size := ⟨_, rfl⟩
  rw [← hr] at l1 ⊢
  have L1 := Lib.hid l1; have B1 := Lib.hid b1
  have hrw : w.heap.size ≤ r := by omega
  have hr1 : r < w1.heap.size := l1.lt
  clear hr b1 s1 l1
  by_cases h128 : n = 128
  · subst h128
    have RD1 := Lib.hid (HR.out.below (B1.out.mono hN))
    have b9 : ∃ b9 o9, A = some ⟨b9, o9, none⟩ := by
      obtain ⟨b9, o9, e, _⟩ := RD1.out 0 (by rw [HL.out]; decide)
      exact ⟨b9, o9, e⟩
    obtain ⟨b9, o9, rfl⟩ := b9
    have nc : ¬ cap = 124 := by omega
    have nc2 : ¬ cap = 116 := by omega
    have nc3 : (124 : Int) ≤ (cap : Int) := by omega
    have nc4 : (116 : Int) ≤ (cap : Int) := by omega
    obtain ⟨M, hM⟩ : ∃ M, M = numL (ys.drop 124) := ⟨_, rfl⟩
    obtain ⟨C, hC⟩ : ∃ C, C = crc (ys.take 124) := ⟨_, rfl⟩
    have GE : Hid (goodB ys = decide (M = wrd C)) := Lib.hid (by rw [hM, hC]; exact good_num HL.out UU.out)
    have NU : Hid (∀ c W, RdB W N (some ⟨b9, o9, none⟩) ys → Calls Try.prog 21 #[.slice (some ⟨b9, o9 + 124, none⟩) 4 c] W fun e w' => e = .returned (.int .i64 M) ∧ w' = W) := Lib.hid (fun c W hr => by
      rw [hM]
      exact (number_any N _ 4 c (ys.drop 124) (by rw [List.length_drop, HL.out]) (by decide) W (hr.drop 124)).mono (fun _ _ h => ⟨h.1, h.2.symm⟩))
    have CR : Hid (∀ c W, RdB W N (some ⟨b9, o9, none⟩) ys → Calls Try.prog 22 #[.slice (some ⟨b9, o9, none⟩) 124 c] W fun e w' => e = .returned (.int .u32 (wrd C)) ∧ w' = W) := Lib.hid (fun c W hr => by
      rw [hC]
      exact (rcrc_n N _ 124 c (ys.take 124) (by rw [List.length_take, HL.out]; rfl) (by decide) W (hr.take 124)).mono (fun _ _ h => ⟨h.1, h.2.symm⟩))
    obtain ⟨q0, q1⟩ := u32_bd C
    have wq : IntKind.i64.wrap (wrd C) = wrd C := IntWalk.i64_in _ (by omega)
    clear hM hC
    cases hg : goodB ys
    · have GN := Lib.hid (got_none (getLf_bad hg))
      rw [hg] at GE
      have t1 : (M == wrd C) = false := by have := GE.out; simpa using this.symm
      have t2 : (M != wrd C) = true := by have := GE.out; simpa using this.symm
      clear hg
      go_wp2_with fail
      go_quiet ((first | (go_at_call 21; exact Calls.quiet_of_same (NU.out _ (w1.drewN _) RD1.out)) | (go_at_call 22; exact Calls.quiet_of_same (CR.out _ (w1.drewN _) RD1.out))))
      have L1' : LfAt (w1.drewN nq) r Lf.zero := L1.out.same rfl
      go_wp2_with (first | (with_reducible refine build_zero rfl rfl ?_) | (with_reducible refine store_leaf rfl _ _ rfl r Lf.zero Lf.zero L1' Lf.zero_ok rfl rfl ?_))
      intro w3 l3 k3 s3
      have L3 := Lib.hid l3
      have B3 := Lib.hid (k3.below (fun k hk => by omega) (below_drewN B1.out _) B1.out.size)
      clear l3 k3 s3
      go_wp2
      refine ret_leaf 2 3 rfl rfl rfl L3.out rfl ⟨?_, B3.out⟩
      rw [GN.out.1, GN.out.2]
    · have GY := Lib.hid hg
      rw [hg] at GE
      have t1 : (M == wrd C) = true := by have := GE.out; simpa using this.symm
      have t2 : (M != wrd C) = false := by have := GE.out; simpa using this.symm
      clear hg
      go_wp2_with fail
      go_quiet ((first | (go_at_call 21; exact Calls.quiet_of_same (NU.out _ (w1.drewN _) RD1.out)) | (go_at_call 22; exact Calls.quiet_of_same (CR.out _ (w1.drewN _) RD1.out))))
      go_wp2_with fail
      obtain ⟨w2, hw2⟩ : ∃ w2, w2 = w1.drewN nq := ⟨_, rfl⟩
      have RD2 : Hid (RdB w2 N (some ⟨b9, o9, none⟩) ys) := Lib.hid (by rw [hw2]; exact RD1.out)
      have L2 : Hid (LfAt w2 r Lf.zero) := Lib.hid (by rw [hw2]; exact L1.out.same rfl)
      have B2 : Hid (Below w.heap.size w w2) := Lib.hid (by rw [hw2]; exact below_drewN B1.out _)
      rw [← hw2]
      have hr2 : r < w2.heap.size := L2.out.lt
      clear hw2 RD1 L1 B1 hr1 NU CR t1 t2 wq nc nc2 nc3 nc4
      obtain ⟨p, hp⟩ : ∃ p, o9 + 116 = p := ⟨_, rfl⟩
      obtain ⟨ct, hct⟩ : ∃ ct, cap - 116 = ct := ⟨_, rfl⟩
      have ct1 : 12 ≤ ct := by omega
      rw [hp, hct]
      have cc : ∀ k, k < 128 → b9 < N ∧ w2.cell? ⟨b9, o9 + k, none⟩ = some (.int .u8 (ys.getD k 0)) := fun k hk => by
        obtain ⟨b', o', e, h1, h2, _⟩ := RD2.out k (by rw [HL.out]; exact hk)
        injection e with e; injection e with e1 e2; subst e1 e2
        exact ⟨h1, h2⟩
      have c22 : w2.cell? ⟨b9, p + 6, none⟩ = some (.int .u8 (ys.getD 122 0)) := by rw [← hp]; exact (cc 122 (by decide)).2
      have c23 : w2.cell? ⟨b9, p + 7, none⟩ = some (.int .u8 (ys.getD 123 0)) := by rw [← hp]; exact (cc 123 (by decide)).2
      have hb9 : b9 < w2.heap.size := by have := (cc 0 (by decide)).1; have := B2.out.size; omega
      have hN2 : N ≤ w2.heap.size := by have := B2.out.size; omega
      clear cc
      obtain ⟨u220, u221⟩ := UU.out 122 (by rw [HL.out]; decide)
      obtain ⟨u230, u231⟩ := UU.out 123 (by rw [HL.out]; decide)
      obtain ⟨y6, hy6⟩ : ∃ y, y = ys.getD 116 0 + 256 * ys.getD (116 + 1) 0 := ⟨_, rfl⟩
      obtain ⟨y8, hy8⟩ : ∃ y, y = ys.getD 118 0 + 256 * ys.getD (118 + 1) 0 := ⟨_, rfl⟩
      obtain ⟨y0, hy0⟩ : ∃ y, y = ys.getD 120 0 + 256 * ys.getD (120 + 1) 0 := ⟨_, rfl⟩
      have T6 : Hid (∀ c W, RdB W N (some ⟨b9, o9, none⟩) ys → Calls Try.prog 21 #[.slice (some ⟨b9, p, none⟩) 2 c] W fun e w' => e = .returned (.int .i64 y6) ∧ W = w') := Lib.hid (fun c W hr => by rw [hy6]; exact number_two N b9 o9 116 c ys W hr (by rw [HL.out]; decide) p hp.symm)
      have T8 : Hid (∀ c W, RdB W N (some ⟨b9, o9, none⟩) ys → Calls Try.prog 21 #[.slice (some ⟨b9, p + 2, none⟩) 2 c] W fun e w' => e = .returned (.int .i64 y8) ∧ W = w') := Lib.hid (fun c W hr => by rw [hy8]; exact number_two N b9 o9 118 c ys W hr (by rw [HL.out]; decide) (p + 2) (by omega))
      have T0 : Hid (∀ c W, RdB W N (some ⟨b9, o9, none⟩) ys → Calls Try.prog 21 #[.slice (some ⟨b9, p + 4, none⟩) 2 c] W fun e w' => e = .returned (.int .i64 y0) ∧ W = w') := Lib.hid (fun c W hr => by rw [hy0]; exact number_two N b9 o9 120 c ys W hr (by rw [HL.out]; decide) (p + 4) (by omega))
      have VE : Hid (lv (numsOf ys) = .int .i64 (ys.getD 123 0) :: .int .i64 y6 :: .int .i64 y8 :: .int .i64 y0 :: .int .i64 (ys.getD 122 0) :: vals (zeros 116)) := Lib.hid (by rw [hy6, hy8, hy0]; rfl)
      obtain ⟨Z, hz, hzs, hzn, hzf, ZE⟩ := zero_leaf_run' (ys.getD 123 0) y6 y8 y0 (ys.getD 122 0)
      obtain ⟨V, hV⟩ : ∃ V, V = lv (numsOf ys) := ⟨_, rfl⟩
      rw [← VE.out, ← hV] at hzf
      have NK : Hid ((numsOf ys).Ok) := Lib.hid (nums_ok (by rw [HL.out]; decide) UU.out)
      have hvl : V.length = 121 := by rw [hV]; exact lv_len NK.out
      have st1 : (storeCells ⟨w2.heap.size, 0, none⟩ V 0).run Try.prog (w2.drew.alloc (.cells Z 24)) = .ok () (w2.drew.alloc (.cells V.toArray 24)) := by
        rw [hV]
        exact run_storeCells_new (P := Try.prog) w2.drew 24 Z (lv (numsOf ys)).toArray (by rw [Try.size_leaf, List.size_toArray, lv_len NK.out]) (by rw [hzs, List.size_toArray, lv_len NK.out]) (all_oneCell_toArray (lv_one _))
      have st2 : (storeCells ⟨w2.heap.size, 0, none⟩ V 0).run Try.prog (w2.alloc (.cells Z 24)).drew = .ok () (w2.alloc (.cells V.toArray 24)).drew := st1
      have HV := Lib.hid hV
      have w22 : IntKind.i64.wrap (ys.getD 122 0) = ys.getD 122 0 := IntWalk.i64_in _ (by omega)
      have w23 : IntKind.i64.wrap (ys.getD 123 0) = ys.getD 123 0 := IntWalk.i64_in _ (by omega)
      have n1 : ¬ ct = 2 := by omega
      have n2 : ¬ ct = 4 := by omega
      have n3 : (2 : Int) ≤ (ct : Int) := by omega
      have n4 : (4 : Int) ≤ (ct : Int) := by omega
      have n5 : (6 : Int) ≤ (ct : Int) := by omega
      have n6 : 2 ≤ ct := by omega
      have n7 : 4 ≤ ct := by omega
      have n8 : 6 ≤ ct := by omega
      clear hV hy6 hy8 hy0 hp hct
      generalize ys.getD 122 0 = y2 at *
      generalize ys.getD 123 0 = y3 at *
      go_upto_region 4 with fail
      go_cut [5] (fun v wd => v = .pointer (some ⟨w2.heap.size, 0, none⟩) ∧ LfAt wd w2.heap.size (numsOf ys) ∧ Below w2.heap.size w2 wd)
      case first =>
        go_region_held_law (fun w' => w'.cell? ⟨b9, p + 6, none⟩ = some (.int .u8 y2) ∧ w'.cell? ⟨b9, p + 7, none⟩ = some (.int .u8 y3)) (first | exact ⟨c22, c23⟩ | go_keep)
          (first
            | (go_at_call 21; (first | (with_reducible refine (T6.out _ _ (RD2.out.below (by repeat' (first | (with_reducible exact Below.refl _ _) | (with_reducible refine below_drewN ?_ _) | (with_reducible refine Below.drew ?_) | (with_reducible refine Below.alloc ?_ ?_ _) | go_size)))).mono ?_) | (with_reducible refine (T8.out _ _ (RD2.out.below (by repeat' (first | (with_reducible exact Below.refl _ _) | (with_reducible refine below_drewN ?_ _) | (with_reducible refine Below.drew ?_) | (with_reducible refine Below.alloc ?_ ?_ _) | go_size)))).mono ?_) | (with_reducible refine (T0.out _ _ (RD2.out.below (by repeat' (first | (with_reducible exact Below.refl _ _) | (with_reducible refine below_drewN ?_ _) | (with_reducible refine Below.drew ?_) | (with_reducible refine Below.alloc ?_ ?_ _) | go_size)))).mono ?_)); rintro e wx ⟨rfl, rfl⟩))
        all_goals
          clear st1 st2 hz hzf w22 w23
          go_wp2
          go_meet
          case rel => exact ⟨rfl, by rw [HV.out]; exact LfAt.new w2.drew NK.out, (Below.refl _ _).drew.alloc (Nat.le_refl _) _⟩
      case rest =>
        obtain ⟨rfl, l3, b3⟩ := hcut
        obtain ⟨l, hl⟩ : ∃ l, l = w2.heap.size := ⟨_, rfl⟩
        have L3 : Hid (LfAt wc l (partOf ys 0)) := Lib.hid (by rw [part_zero, hl]; exact l3)
        have R3 := Lib.hid (L2.out.below b3)
        have B3 := Lib.hid (bstep B2.out b3)
        have RD3 := Lib.hid (RD2.out.below (b3.mono hN2))
        have hrl : r < l := by omega
        have hlw : w.heap.size ≤ l := by omega
        have hbl : b9 < l := by omega
        have hNl : N ≤ l := by omega
        have hlc : l < wc.heap.size := L3.out.lt
        rw [← hl]
        clear l3 b3 hl L2 B2 RD2 st1 st2 hz hzf w22 w23 T6 T8 T0 VE ZE HV c22 c23
        go_wp2
        go_loopw [6, 41] (fun _ iv wr => ∃ k : Nat, k ≤ 116 ∧ iv = .int .i64 (k : Int) ∧ LfAt wr l (partOf ys k) ∧ Keep (· = l) wc wr) (fun _ iv _ => 116 - (intOf iv).toNat)
        case atStart => exact ⟨0, Nat.zero_le _, rfl, L3.out, Keep.refl _ _⟩
        case round =>
          obtain ⟨k, hk, rfl, l4, k4⟩ := hrel
          have L4 := Lib.hid l4; have K4 := Lib.hid k4
          clear l4 k4
          by_cases hlt : k < 116
          · have i1 : decide ((k : Int) < 116) = true := by rw [decide_eq_true_eq]; omega
            have i2 : decide (k < 116) = true := by rw [decide_eq_true_eq]; omega
            have i3 : k < 128 := by omega
            obtain ⟨b', o', e, h1, h2, hu⟩ := RD3.out k (by rw [HL.out]; omega)
            injection e with e; injection e with e1 e2; subst e1 e2
            have cb : wr.cell? ⟨b9, o9 + k, none⟩ = some (.int .u8 (ys.getD k 0)) := by
              rw [World.cell?_of_block (w := wc) (a := ⟨b9, o9 + k, none⟩) (K4.out.block b9 (by omega) (by omega))]
              exact h2
            have ob := L4.out.byte k hlt
            have fb := L4.out.frozen (5 + k)
            have L5 : Hid (LfAt (wr.setCell ⟨l, 5 + k, none⟩ (.int .u8 (ys.getD k 0))) l (partOf ys (k + 1))) := Lib.hid (by
              rw [← part_next k hlt HL.out]
              exact L4.out.store k _ hu)
            have K5 : Hid (Keep (· = l) wc (wr.setCell ⟨l, 5 + k, none⟩ (.int .u8 (ys.getD k 0)))) := Lib.hid (K4.out.cellF (a := ⟨l, 5 + k, none⟩) rfl _)
            clear h1 h2 hu
            generalize ys.getD k 0 = y at *
            generalize (partOf ys k).load.getD k 0 = z at *
            go_wp2
            go_roundw
            case rel => exact ⟨k + 1, by omega, by go_num, L5.out, K5.out⟩
            case measure => simp [intOf]; omega
          · obtain rfl : k = 116 := by omega
            have L5 : Hid (LfAt wr l (unput ys)) := Lib.hid (by rw [← part_all]; exact L4.out)
            have R5 : Hid (LfAt wr r Lf.zero) := Lib.hid (R3.out.same (K4.out.block r (by omega) (by omega)))
            have B5 : Hid (Below w.heap.size w wr) := Lib.hid (K4.out.below (fun k hk => by omega) B3.out B3.out.size)
            have OK : Hid ((unput ys).Ok) := Lib.hid (unput_ok (by rw [HL.out]; decide) UU.out)
            have RT := Lib.hid (rright_any (unput ys) OK.out wr)
            clear L4 K4 L3 R3 B3 RD3
            go_wp2_with (with_reducible refine load_leaf rfl _ rfl l (unput ys) L5.out rfl ?_)
            refine RT.out.mono ?_
            rintro e w5 ⟨rfl, b5⟩
            have L6 := Lib.hid (L5.out.below b5)
            have R6 := Lib.hid (R5.out.below b5)
            have B6 := Lib.hid (bstep B5.out b5)
            clear b5 L5 R5 B5 RT
            cases hq : (unput ys).rt
            · have GN := Lib.hid (got_none (ys := ys) (by unfold getLf; rw [if_neg (fun e => (Lf.rt_no OK.out).1 hq e.2.2)]))
              clear hq
              go_wp2_with (first | (with_reducible refine build_zero rfl rfl ?_) | (with_reducible refine store_leaf rfl _ _ rfl r Lf.zero Lf.zero R6.out Lf.zero_ok rfl rfl ?_))
              intro w6 l6 k6 s6
              have L7 := Lib.hid l6
              have B7 := Lib.hid (k6.below (fun k hk => by omega) B6.out B6.out.size)
              clear l6 k6 s6
              go_wp2
              refine ret_leaf 2 3 rfl rfl rfl L7.out rfl ⟨?_, B7.out⟩
              rw [GN.out.1, GN.out.2]
            · have GN := Lib.hid (got_some (ys := ys) (L := unput ys) (by unfold getLf; rw [if_pos ⟨HL.out, GY.out, (Lf.rt_iff OK.out).1 hq⟩]))
              clear hq
              go_wp2_with (first | (with_reducible refine load_leaf rfl _ rfl l (unput ys) L6.out rfl ?_) | (with_reducible refine store_leaf rfl _ _ rfl r Lf.zero (unput ys) R6.out OK.out rfl rfl ?_))
              intro w6 l6 k6 s6
              have L7 := Lib.hid l6
              have B7 := Lib.hid (k6.below (fun k hk => by omega) B6.out B6.out.size)
              clear l6 k6 s6
              go_wp2
              refine ret_leaf 2 3 rfl rfl rfl L7.out rfl ⟨?_, B7.out⟩
              rw [GN.out.1, GN.out.2]
  · have GN := Lib.hid (got_none (getLf_len (ys := ys) (by rw [HL.out]; exact h128)))
    have t1 : ((n : Int) != 128) = true := by simp; omega
    clear h128
    go_wp2_with fail
    go_quiet (fail)
    have L1' : LfAt (w1.drewN nq) r Lf.zero := L1.out.same rfl
    go_wp2_with (first | (with_reducible refine build_zero rfl rfl ?_) | (with_reducible refine store_leaf rfl _ _ rfl r Lf.zero Lf.zero L1' Lf.zero_ok rfl rfl ?_))
    intro w3 l3 k3 s3
    have L3 := Lib.hid l3
    have B3 := Lib.hid (k3.below (fun k hk => by omega) (below_drewN B1.out _) B1.out.size)
    clear l3 k3 s3
    go_wp2
    refine ret_leaf 2 3 rfl rfl rfl L3.out rfl ⟨?_, B3.out⟩
    rw [GN.out.1, GN.out.2]
end Go.Proofs.Ytkmlajlnpfoepaa
