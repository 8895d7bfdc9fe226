/-
  DiskKeeps, over the contracts of package disk.
-/
import Derived.Test.YtaehgpieichjkaaDRuns
import Derived.Test.YtaehgpieichjkaaBWithinI
import Derived.Test.YtaehgpieichjkaaDAsk
import Derived.Test.YtaehgpieichjkaaWArr
import Derived.Test.YtaehgpieichjkaaDL
import Derived.Deep.DeepCutAuto
import Derived.Deep.RegionHeld3
import Derived.BigRegion
namespace Go.Proofs.Ytaehgpieichjkaa
set_option linter.unusedVariables false
set_option linter.unusedSimpArgs false
open Go.RowKit

set_option maxRecDepth 100000 in
set_option maxHeartbeats 8000000 in
theorem dkeeps_any (A : Option Addr) (len cap : Nat) (f : Nat → AskD) (A' : Option Addr) (len' cap' : Nat) (f' : Nat → AskD) (HA : Option Addr) (hn hc : Nat) (how : List Int) (w : World)
    (hr : AskR w A len f) (h1 : len ≤ cap) (h2 : cap ≤ maxLen) (hr' : AskR w A' len' f') (h1' : len' ≤ cap') (h2' : cap' ≤ maxLen) (hh : RdB w w.heap.size HA how) (hhl : how.length = hn) (h3 : hn ≤ hc) (h4 : hc ≤ maxLen) :
    Calls Try.prog 5 #[.slice A len cap, .slice A' len' cap', .slice HA hn hc] w fun e w' => e = .returned (.bool true) ∧ Below w.heap.size w w' := by
  unfold maxLen at h2 h2' h4
  have HR := Lib.hid hr; have HR' := Lib.hid hr'; have HH := Lib.hid hh; have HHL := Lib.hid hhl
  have U3 := Lib.hid (u8_lit 3 (by decide))
  clear hr hr' hh hhl
  go_enter Try.func5, Try.ntmps5
  go_wp2_with fail
  refine (in_new 6 (by decide) (by decide) w).mono ?_
  rintro e w1 ⟨b, rfl, k1⟩
  have K1 := Lib.hid k1
  clear k1
  obtain ⟨h, hh⟩ : ∃ h, h = w1.heap.size := ⟨_, rfl⟩
  have HHH := Lib.hid hh
  have hwh : w.heap.size ≤ h := by have := K1.out.2.size; omega
  have AR1 : Hid (Arr (w1.alloc (.cells #[.int .u8 0, .int .u8 0, .int .u8 0, .int .u8 0, .int .u8 0, .int .u8 0] 51)) h 51 (vals (List.replicate 6 0))) := Lib.hid (by rw [hh]; exact Arr.new w1 _ _)
  have K2 := Lib.hid (K1.out.lit (.cells #[.int .u8 0, .int .u8 0, .int .u8 0, .int .u8 0, .int .u8 0, .int .u8 0] 51))
  have S2 := Lib.hid (DL.start 6)
  clear hh K1
  go_wp2
  rw [← HHH.out]
  go_loopw [6, 9, 10] (fun _ iv _ wr => ∃ (i : Nat) (s : Dk) (hs : List Int), i ≤ 12 ∧ i ≤ len ∧ iv = .int .i64 (i : Int) ∧ DL.LastI 6 i s hs ∧ Arr wr h 51 (vals hs) ∧ DkIn w wr b s [h]) (fun _ iv _ _ => 12 - (intOf iv).toNat)
  case atStart => exact ⟨0, _, _, by omega, by omega, rfl, S2.out, AR1.out, by have := K2.out; rw [← HHH.out] at this; exact this⟩
  case round =>
    obtain ⟨i, s, hs, hi, hil, rfl, hS, hA, hd⟩ := hrel
    have HS := Lib.hid hS; have HAr := Lib.hid hA; have HD := Lib.hid hd
    clear hS hA hd
    by_cases hlt : i < len ∧ i < 12
    · obtain ⟨hlt, h12⟩ := hlt
      have t1 : decide ((i : Int) < (len : Int)) = true := by rw [decide_eq_true_eq]; omega
      have t2 : decide ((i : Int) < 12) = true := by rw [decide_eq_true_eq]; omega
      obtain ⟨bb, oo, rfl, hbb, c0, c1, _, _, c4, _, _, _, ⟨_, hii, _, _, hxx, _⟩, _⟩ := HR.out i hlt
      have l1 : (i : Int) < (len : Int) := by omega
      have l0 : (0 : Int) ≤ (i : Int) := by omega
      have z1 := HD.out.2.cell (p := ⟨bb, oo + i * 8 + 1, none⟩) hbb
      rw [c1] at z1
      have z4 := HD.out.2.cell (p := ⟨bb, oo + i * 8 + 4, none⟩) hbb
      rw [c4] at z4
      have C4 := Lib.hid c4
      have HIi := Lib.hid hii
      have HXi := Lib.hid hxx
      obtain ⟨x0, x1⟩ := id hxx
      clear hii hxx c0 c1 c4
      generalize (f i).i = fi at *
      generalize (f i).x = fx at *
      go_wp2_with fail
      refine (within_in fi 0 5 HIi.out (by decide) (by decide) (by decide) (by decide) _).mono ?_
      rintro e m1 ⟨yy, rfl, yy0, yy1, rfl⟩
      obtain ⟨k, rfl⟩ : ∃ k : Nat, yy = (k : Int) := ⟨yy.toNat, by omega⟩
      have hk : k < 6 := by omega
      go_wp2_with fail
      refine (fill_any fx HXi.out wr).mono ?_
      rintro e w3 f3
      have K3 := Lib.hid (HD.out.filled f3)
      have A3 := Lib.hid (HAr.out.below f3.2.2)
      obtain ⟨rfl, o3, _⟩ := f3
      have O3 := Lib.hid o3
      clear o3 HD
      go_wp2_with fail
      refine (in_write w b s _ k 128 _ _ w3 K3.out (by rw [HS.out.len]; exact hk) (IsBlk.fill HXi.out) _ O3.out (by simp) (by have := HS.out.wt; omega) (by have := HS.out.wrote; omega)).mono ?_
      rintro e w4 ⟨rfl, t4⟩
      rw [Dk.says_goes HS.out.free.goes]
      have K4 := Lib.hid t4.pop.1
      have z5 := K4.out.2.cell (p := ⟨bb, oo + i * 8 + 4, none⟩) hbb
      rw [C4.out] at z5
      have k5 : (k : Int) < 6 := by omega
      have k6 : (0 : Int) ≤ (k : Int) := by omega
      have A4 := Lib.hid (A3.out.same (t4.2.1 h (by simp)))
      have S4 := Lib.hid (HS.out.write k fx hk HXi.out)
      have yh := A4.out.cell k
      rw [vals_at hs k (by rw [HS.out.hl]; exact hk)] at yh
      have fh := A4.out.frozen k
      have A5 := Lib.hid (A4.out.set k (.int .u8 fx))
      have K5 := Lib.hid (K4.out.set (g := h) (by simp) hwh k (.int .u8 fx))
      rw [vals_set] at A5
      generalize hs.getD k 0 = v at *
      generalize hs.set k fx = hs' at *
      generalize s.write k (fillB fx) = s' at *
      clear t4 K3 A3 O3 z1 z4 HS K4 A4 HAr
      go_wp2
      go_roundw
      case rel => exact ⟨i + 1, _, _, by omega, by omega, by go_num, S4.out, A5.out, K5.out⟩
      case measure => simp [intOf]; omega
    · have t1 : (decide ((i : Int) < (len : Int)) && decide ((i : Int) < 12)) = false := by simp; omega
      have S3 := Lib.hid (HS.out.keeps HD.out.ok how)
      go_upto_region 6 with fail
      go_cut [28] (fun v wd => v = .bool false ∧ wr = wd)
      case first =>
        by_cases hlt1 : i < len
        · have t1 : decide ((i : Int) < (len : Int)) = true := by rw [decide_eq_true_eq]; omega
          have t2 : decide ((i : Int) < 12) = false := by rw [decide_eq_false_iff_not]; omega
          go_wp2
          go_meet
          case rel => exact ⟨rfl, rfl⟩
        · have t1 : decide ((i : Int) < (len : Int)) = false := by rw [decide_eq_false_iff_not]; omega
          go_wp2
          go_meet
          case rel => exact ⟨rfl, rfl⟩
      case rest =>
      obtain ⟨rfl, rfl⟩ := hcut
      go_wp2_with fail
      refine (in_flush w b s [h] wr HD.out (by have := HS.out.wt; omega)).mono ?_
      rintro e w5 ⟨rfl, t5⟩
      rw [Dk.says_goes HS.out.free.goes]
      have K5 := Lib.hid t5.1
      have A5 := Lib.hid (HAr.out.same (t5.2.1 h (by simp)))
      clear t5 HD HAr HS
      generalize s.flush = s0 at *
      obtain ⟨h', hh'⟩ : ∃ h', h' = w5.heap.size := ⟨_, rfl⟩
      have HHK := Lib.hid hh'
      have hwh' : w.heap.size ≤ h' := by have := K5.out.2.size; omega
      have hne : h ≠ h' := by have := A5.out.lt; omega
      have T6 : Hid (Arr (w5.alloc (.cells #[.bool false, .bool false, .bool false, .bool false, .bool false, .bool false] 53)) h' 53 (bvals (List.replicate 6 false))) := Lib.hid (by rw [hh']; exact Arr.new w5 _ _)
      have A6 := Lib.hid (A5.out.below (Below.alloc (Below.refl _ _) (Nat.le_refl _) (.cells #[.bool false, .bool false, .bool false, .bool false, .bool false, .bool false] 53)))
      have K6 := Lib.hid (K5.out.lit (.cells #[.bool false, .bool false, .bool false, .bool false, .bool false, .bool false] 53))
      clear hh' K5 A5
      go_wp2
      rw [← HHK.out]
      go_loopw [6, 12, 13, 14] (fun _ iv _ _ wr => ∃ (j : Nat) (s : Dk) (hs : List Int) (ts : List Bool), j ≤ 12 ∧ j ≤ len' ∧ iv = .int .i64 (j : Int) ∧ DL.KeepI how 6 i j s hs ts ∧ Arr wr h 51 (vals hs) ∧ Arr wr h' 53 (bvals ts) ∧ DkIn w wr b s [h', h]) (fun _ iv _ _ _ => 12 - (intOf iv).toNat)
      case atStart => exact ⟨0, _, _, _, by omega, by omega, rfl, S3.out, A6.out, T6.out, by have := K6.out; rw [← HHK.out] at this; exact this⟩
      case round =>
        obtain ⟨j, s, hs, ts, hj, hjl, rfl, hS, hA, hT, hd⟩ := hrel
        have HS := Lib.hid hS; have HAr := Lib.hid hA; have HT := Lib.hid hT; have HD := Lib.hid hd
        clear hS hA hT hd S3 A6 T6 K6
        by_cases hlt : j < len' ∧ j < 12
        · obtain ⟨hlt, h12⟩ := hlt
          have t1 : decide ((j : Int) < (len' : Int)) = true := by rw [decide_eq_true_eq]; omega
          have t2 : decide ((j : Int) < 12) = true := by rw [decide_eq_true_eq]; omega
          obtain ⟨bb, oo, rfl, hbb, c0, c1, _, _, c4, _, _, _, ⟨_, hii, _, _, hxx, _⟩, _⟩ := HR'.out j hlt
          have l1 : (j : Int) < (len' : Int) := by omega
          have l0 : (0 : Int) ≤ (j : Int) := by omega
          have z1 := HD.out.2.cell (p := ⟨bb, oo + j * 8 + 1, none⟩) hbb
          rw [c1] at z1
          have z4 := HD.out.2.cell (p := ⟨bb, oo + j * 8 + 4, none⟩) hbb
          rw [c4] at z4
          have C4 := Lib.hid c4
          have HIi := Lib.hid hii
          have HXi := Lib.hid hxx
          obtain ⟨x0, x1⟩ := id hxx
          clear hii hxx c0 c1 c4
          generalize (f' j).i = fi at *
          generalize (f' j).x = fx at *
          go_wp2_with fail
          refine (within_in fi 0 5 HIi.out (by decide) (by decide) (by decide) (by decide) _).mono ?_
          rintro e m1 ⟨yy, rfl, yy0, yy1, rfl⟩
          obtain ⟨k, rfl⟩ : ∃ k : Nat, yy = (k : Int) := ⟨yy.toNat, by omega⟩
          have hk : k < 6 := by omega
          go_wp2_with fail
          refine (fill_any fx HXi.out wr).mono ?_
          rintro e w3 f3
          have K3 := Lib.hid (HD.out.filled f3)
          have A3 := Lib.hid (HAr.out.below f3.2.2)
          have T3 := Lib.hid (HT.out.below f3.2.2)
          obtain ⟨rfl, o3, _⟩ := f3
          have O3 := Lib.hid o3
          clear o3 HD
          go_wp2_with fail
          refine (in_write w b s _ k 128 _ _ w3 K3.out (by rw [HS.out.len]; exact hk) (IsBlk.fill HXi.out) _ O3.out (by simp) (by have := HS.out.wt; omega) (by have := HS.out.wrote; omega)).mono ?_
          rintro e w4 ⟨rfl, t4⟩
          rw [Dk.says_goes HS.out.free.goes]
          have K4 := Lib.hid t4.pop.1
          have z5 := K4.out.2.cell (p := ⟨bb, oo + j * 8 + 4, none⟩) hbb
          rw [C4.out] at z5
          have k5 : (k : Int) < 6 := by omega
          have k6 : (0 : Int) ≤ (k : Int) := by omega
          have A4 := Lib.hid (A3.out.same (t4.2.1 h (by simp)))
          have T4 := Lib.hid (T3.out.same (t4.2.1 h' (by simp)))
          clear t4 K3 A3 T3 O3 z1 z4 HAr HT
          obtain ⟨c, hc⟩ : ∃ c, c = how.getD j 0 % 3 := ⟨_, rfl⟩
          have HC := Lib.hid hc
          have c012 : c = 1 ∨ c = 2 ∨ c = 0 := by omega
          clear hc
          go_upto_if 86 with fail
          go_cut [14] (fun v wd => v = .int .u8 c ∧ w4 = wd)
          case first =>
            by_cases hjn : j < hn
            · have t3 : decide ((j : Int) < (hn : Int)) = true := by rw [decide_eq_true_eq]; omega
              obtain ⟨b9, o9, rfl, hb9, c9, u9, u9'⟩ := HH.out j (by rw [HHL.out]; exact hjn)
              have z9 := K4.out.2.cell (p := ⟨b9, o9 + j, none⟩) hb9
              rw [c9] at z9
              have e9 := HC.out
              generalize how.getD j 0 = y at *
              have l9 : (j : Int) < (hn : Int) := by omega
              have m9 : y % 3 = c := e9.symm
              clear e9
              go_wp2
              go_meet
              case rel => exact ⟨by rw [m9], rfl⟩
            · have t3 : decide ((j : Int) < (hn : Int)) = false := by rw [decide_eq_false_iff_not]; omega
              have e9 : c = 0 := by rw [HC.out, List.getD_eq_getElem?_getD, List.getElem?_eq_none (by rw [HHL.out]; omega)]; rfl
              subst e9
              go_wp2
              go_meet
              case rel => exact ⟨rfl, rfl⟩
          case rest =>
            obtain ⟨rfl, rfl⟩ := hcut
            rcases c012 with rfl | rfl | rfl
            · skip
              have S5 := HS.out.write k fx hk HXi.out 1 HC.out.symm
              rw [if_pos rfl, if_pos rfl] at S5
              have S6 := Lib.hid S5
              have yh := A4.out.cell k
              rw [vals_at hs k (by rw [HS.out.hl]; exact hk)] at yh
              have fh := A4.out.frozen k
              have B4 := Lib.hid (A4.out.set k (.int .u8 fx))
              have L4 := Lib.hid (K4.out.set (g := h) (by simp) hwh k (.int .u8 fx))
              have V4 := Lib.hid (T4.out.far (g := h) (k := k) (fun e => hne e.symm) (.int .u8 fx))
              have yt := V4.out.cell k
              rw [bvals_at ts k (by rw [HS.out.tl]; exact hk)] at yt
              have ft := V4.out.frozen k
              have A5 := Lib.hid (B4.out.far (g := h') (k := k) hne (.bool false))
              have T5 := Lib.hid (V4.out.set k (.bool false))
              have K5 := Lib.hid (L4.out.set (g := h') (by simp) hwh' k (.bool false))
              rw [vals_set] at A5
              rw [bvals_set] at T5
              generalize hs.getD k 0 = v at *
              generalize ts.getD k false = tv at *
              generalize hs.set k fx = hs' at *
              generalize ts.set k false = ts' at *
              generalize s.write k (fillB fx) = s' at *
              clear S5 HS K4 A4 T4 B4 L4 V4
              go_wp2
              go_roundw
              case rel => exact ⟨j + 1, _, _, _, by omega, by omega, by go_num, S6.out, A5.out, T5.out, K5.out⟩
              case measure => simp [intOf]; omega
            · skip
              have S5 := HS.out.write k fx hk HXi.out 2 HC.out.symm
              rw [if_neg (by decide), if_neg (by decide), if_pos rfl] at S5
              have S6 := Lib.hid S5
              have yt := T4.out.cell k
              rw [bvals_at ts k (by rw [HS.out.tl]; exact hk)] at yt
              have ft := T4.out.frozen k
              have A5 := Lib.hid (A4.out.far (g := h') (k := k) hne (.bool true))
              have T5 := Lib.hid (T4.out.set k (.bool true))
              have K5 := Lib.hid (K4.out.set (g := h') (by simp) hwh' k (.bool true))
              rw [bvals_set] at T5
              generalize ts.getD k false = tv at *
              generalize ts.set k true = ts' at *
              generalize s.write k (fillB fx) = s' at *
              clear S5 HS K4 A4 T4
              go_wp2
              go_roundw
              case rel => exact ⟨j + 1, _, _, _, by omega, by omega, by go_num, S6.out, A5.out, T5.out, K5.out⟩
              case measure => simp [intOf]; omega
            · skip
              have S5 := HS.out.write k fx hk HXi.out 0 HC.out.symm
              rw [if_neg (by decide), if_neg (by decide), if_neg (by decide)] at S5
              have S6 := Lib.hid S5
              generalize s.write k (fillB fx) = s' at *
              clear S5 HS
              go_wp2
              go_roundw
              case rel => exact ⟨j + 1, _, _, _, by omega, by omega, by go_num, S6.out, A4.out, T4.out, K4.out⟩
              case measure => simp [intOf]; omega
        · have t1 : (decide ((j : Int) < (len' : Int)) && decide ((j : Int) < 12)) = false := by simp; omega
          go_upto_region 16 with fail
          go_cut [64] (fun v wd => v = .bool false ∧ wr = wd)
          case first =>
            by_cases hlt1 : j < len'
            · have t1 : decide ((j : Int) < (len' : Int)) = true := by rw [decide_eq_true_eq]; omega
              have t2 : decide ((j : Int) < 12) = false := by rw [decide_eq_false_iff_not]; omega
              go_wp2
              go_meet
              case rel => exact ⟨rfl, rfl⟩
            · have t1 : decide ((j : Int) < (len' : Int)) = false := by rw [decide_eq_false_iff_not]; omega
              go_wp2
              go_meet
              case rel => exact ⟨rfl, rfl⟩
          case rest =>
          obtain ⟨rfl, rfl⟩ := hcut
          go_wp2_with fail
          refine (in_boot w b s [h', h] hn hc w.heap.size HA how wr HD.out HHL.out (by unfold maxLen; omega) (HH.out.below HD.out.2) HD.out.2.size (fun a ha h0 => ?_) (by have := HS.out.wt; omega)).mono ?_
          · obtain ⟨b9, o9, e9, hb9, _, _⟩ := HH.out 0 (by rw [HHL.out]; exact h0)
            rw [ha] at e9
            injection e9 with e9
            subst e9
            exact Or.inl hb9
          rintro e w6 ⟨rfl, t6⟩
          have K6 := Lib.hid t6.1
          have A6 := Lib.hid (HAr.out.same (t6.2.1 h (by simp)))
          have T6 := Lib.hid (HT.out.same (t6.2.1 h' (by simp)))
          have S6 := Lib.hid HS.out.boot
          clear t6 HD HAr HT HS
          generalize s.boot how = s1 at *
          go_wp2
          go_loopw [6, 15, 16, 17, 111] (fun _ _ _ _ kv wr => ∃ (k : Nat) (s : Dk), k ≤ 6 ∧ kv = .int .i64 (k : Int) ∧ DL.BootI 6 (i + j) k s hs ts ∧ Arr wr h 51 (vals hs) ∧ Arr wr h' 53 (bvals ts) ∧ DkIn w wr b s [h', h]) (fun _ _ _ _ kv _ => 6 - (intOf kv).toNat)
          case atStart => exact ⟨0, _, by omega, rfl, S6.out, A6.out, T6.out, K6.out⟩
          case round =>
            obtain ⟨k, s, hk6, rfl, hS, hA, hT, hd⟩ := hrel
            have HS := Lib.hid hS; have HAr := Lib.hid hA; have HT := Lib.hid hT; have HD := Lib.hid hd
            clear hS hA hT hd S6 A6 T6 K6
            by_cases hk : k < 6
            · have l0 : (0 : Int) ≤ (k : Int) := by omega
              have l1 : (k : Int) < 6 := by omega
              have rdk := HS.out.rd k (Nat.le_refl _) hk
              have ux := HS.out.hu k hk
              have UX := Lib.hid ux
              obtain ⟨v0, v1⟩ := id ux
              clear ux
              have LT := Lib.hid (bvals_at ts k (by rw [HS.out.tl]; exact hk))
              have LH := Lib.hid (vals_at hs k (by rw [HS.out.hl]; exact hk))
              generalize hs.getD k 0 = x at *
              go_upto_region 33 with fail
              cases htk : ts.getD k false
              · rw [htk] at rdk LT
                rw [if_neg (by decide)] at rdk
                have RD := Lib.hid rdk
                clear rdk htk
                go_wp2_with fail
                refine (in_read w b s [h', h] k _ wr HD.out (by rw [HS.out.len]; exact hk) RD.out (by have := HS.out.wt; omega)).mono ?_
                rintro e w8 ⟨g, c, rfl, og, t8, k8⟩
                have A8 := Lib.hid (HAr.out.same (t8.2.1 h (by simp)))
                have T8 := Lib.hid (HT.out.same (t8.2.1 h' (by simp)))
                have K8 := Lib.hid (k8.less (Y := [h', h]) (fun y hy => List.mem_cons_of_mem _ hy)); have OG := Lib.hid og
                have yt := T8.out.cell k
                rw [LT.out] at yt
                have yh := A8.out.cell k
                rw [LH.out] at yh
                clear t8 k8 og HD HAr HT
                go_wp2_with fail
                refine (fill_any x UX.out w8).mono ?_
                rintro e w9 f9
                have K9 := Lib.hid (K8.out.below f9.2.2)
                have A9 := Lib.hid (A8.out.below f9.2.2)
                have T9 := Lib.hid (T8.out.below f9.2.2)
                have OG9 := Lib.hid (OG.out.below f9.2.2)
                obtain ⟨rfl, o9, _⟩ := f9
                have O9 := Lib.hid o9
                clear o9 K8 A8 T8 OG yt yh
                go_wp2_with fail
                refine (bsame_yes _ _ _ 128 c 128 (fillB x) w9 (by decide) (fillB_length x) OG9.out.reads O9.out.reads (Nat.le_refl _)).mono ?_
                rintro e w10 ⟨rfl, b10⟩
                have K10 := Lib.hid (K9.out.below b10)
                have A10 := Lib.hid (A9.out.below b10)
                have T10 := Lib.hid (T9.out.below b10)
                clear b10 K9 A9 T9 OG9 O9
                go_wp2_with fail
                refine (fill_any 3 U3.out w10).mono ?_
                rintro e w11 f11
                have K11 := Lib.hid (K10.out.filled f11)
                have A11 := Lib.hid (A10.out.below f11.2.2)
                have T11 := Lib.hid (T10.out.below f11.2.2)
                obtain ⟨rfl, o11, _⟩ := f11
                have O11 := Lib.hid o11
                clear o11 K10 A10 T10
                go_wp2_with fail
                refine (in_write w b s _ k 128 _ _ w11 K11.out (by rw [HS.out.len]; exact hk) (IsBlk.fill U3.out) _ O11.out (by simp) (by have := HS.out.wt; omega) (by have := HS.out.wrote; omega)).mono ?_
                rintro e w12 ⟨rfl, t12⟩
                rw [Dk.says_goes HS.out.free.goes]
                have K12 := Lib.hid t12.pop.1
                have A12 := Lib.hid (A11.out.same (t12.2.1 h (by simp)))
                have T12 := Lib.hid (T11.out.same (t12.2.1 h' (by simp)))
                have S12 := Lib.hid (HS.out.write (fillB 3))
                clear t12 K11 A11 T11 O11 HS
                generalize s.write k (fillB 3) = s' at *
                go_wp2
                go_roundw
                case rel => exact ⟨k + 1, _, by omega, by go_num, S12.out, A12.out, T12.out, K12.out⟩
                case measure => simp [intOf]; omega
              · rw [htk] at rdk LT
                rw [if_pos rfl] at rdk
                have RD := Lib.hid rdk
                clear rdk htk
                go_wp2_with fail
                refine (in_unread w b s [h', h] k wr HD.out (by omega) (by omega) (Or.inr (Or.inr (by rw [Int.toNat_natCast]; exact RD.out))) (by have := HS.out.wt; omega)).mono ?_
                rintro e w10 ⟨rfl, t8⟩
                have A10 := Lib.hid (HAr.out.same (t8.2.1 h (by simp)))
                have T10 := Lib.hid (HT.out.same (t8.2.1 h' (by simp)))
                have K10 := Lib.hid t8.1
                have yt := T10.out.cell k
                rw [LT.out] at yt
                clear t8 HD HAr HT
                go_wp2_with fail
                refine (fill_any 3 U3.out w10).mono ?_
                rintro e w11 f11
                have K11 := Lib.hid (K10.out.filled f11)
                have A11 := Lib.hid (A10.out.below f11.2.2)
                have T11 := Lib.hid (T10.out.below f11.2.2)
                obtain ⟨rfl, o11, _⟩ := f11
                have O11 := Lib.hid o11
                clear o11 K10 A10 T10
                go_wp2_with fail
                refine (in_write w b s _ k 128 _ _ w11 K11.out (by rw [HS.out.len]; exact hk) (IsBlk.fill U3.out) _ O11.out (by simp) (by have := HS.out.wt; omega) (by have := HS.out.wrote; omega)).mono ?_
                rintro e w12 ⟨rfl, t12⟩
                rw [Dk.says_goes HS.out.free.goes]
                have K12 := Lib.hid t12.pop.1
                have A12 := Lib.hid (A11.out.same (t12.2.1 h (by simp)))
                have T12 := Lib.hid (T11.out.same (t12.2.1 h' (by simp)))
                have S12 := Lib.hid (HS.out.write (fillB 3))
                clear t12 K11 A11 T11 O11 HS
                generalize s.write k (fillB 3) = s' at *
                go_wp2
                go_roundw
                case rel => exact ⟨k + 1, _, by omega, by go_num, S12.out, A12.out, T12.out, K12.out⟩
                case measure => simp [intOf]; omega
            · obtain rfl : k = 6 := by omega
              go_wp2_with fail
              refine (in_flush w b s [h', h] wr HD.out (by have := HS.out.wt; omega)).mono ?_
              rintro e w7 ⟨rfl, t7⟩
              rw [Dk.says_goes HS.out.free.goes]
              have K7 := Lib.hid t7.1
              have N7 : Hid (s.flush.wt = []) := Lib.hid (DL.flush_wt HS.out.free)
              clear t7 HD
              generalize s.flush = s2 at *
              go_wp2_with fail
              refine (in_waits w b s2 [h', h] w7 K7.out (by rw [N7.out]; decide)).mono ?_
              rintro e w8 ⟨rfl, t8⟩
              rw [N7.out]
              have B8 := Lib.hid t8.1.2
              clear t8 K7
              go_wp2_with fail
              refine (druns_any w8).mono ?_
              rintro e w9 ⟨rfl, b9⟩
              have B9 := Lib.hid (bstep B8.out b9)
              clear b9 B8
              go_wp2
              go_ret
              exact ⟨rfl, B9.out⟩
end Go.Proofs.Ytaehgpieichjkaa
