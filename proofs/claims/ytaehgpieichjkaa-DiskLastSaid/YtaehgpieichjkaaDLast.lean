/-
  DiskLast, over the contracts of package disk.
-/
import Derived.Test.YtaehgpieichjkaaDRuns
import Derived.Test.YtaehgpieichjkaaBWithinI
import Derived.Test.YtaehgpieichjkaaDAsk
import Derived.Test.YtaehgpieichjkaaWArr
import Derived.Test.YtaehgpieichjkaaDL
import Derived.Deep.DeepCutAuto
import Derived.Deep.RegionHeld3
import Derived.BigRegion
namespace Go.Proofs.Ytaehgpieichjkaa
set_option linter.unusedVariables false
set_option linter.unusedSimpArgs false
open Go.RowKit

namespace DL
theorem five (hs : List Int) (h : hs.length = 5) : ∃ a0 a1 a2 a3 a4, hs = [a0, a1, a2, a3, a4] := by
  match hs, h with
  | [a0, a1, a2, a3, a4], _ => exact ⟨a0, a1, a2, a3, a4, rfl⟩
end DL

set_option maxRecDepth 100000 in
set_option maxHeartbeats 4000000 in
theorem dlast_any (A : Option Addr) (len cap : Nat) (f : Nat → AskD) (fl : Int) (hf : I64 fl) (w : World) (hr : AskR w A len f) (hc : len ≤ cap) (hm : cap ≤ maxLen) :
    Calls Try.prog 7 #[.slice A len cap, .int .i64 fl] w fun e w' => e = .returned (.bool true) ∧ Below w.heap.size w w' := by
  unfold maxLen at hm
  have HF := Lib.hid hf; have HR := Lib.hid hr
  obtain ⟨n0, n1⟩ := id hf
  clear hf hr
  go_enter Try.func7, Try.ntmps7
  go_wp2_with fail
  refine (in_new 5 (by decide) (by decide) w).mono ?_
  rintro e w1 ⟨b, rfl, k1⟩
  have K1 := Lib.hid k1
  clear k1
  obtain ⟨h, hh⟩ : ∃ h, h = w1.heap.size := ⟨_, rfl⟩
  have HH := Lib.hid hh
  have hwh : w.heap.size ≤ h := by have := K1.out.2.size; omega
  have AR1 : Hid (Arr (w1.alloc (.cells #[.int .u8 0, .int .u8 0, .int .u8 0, .int .u8 0, .int .u8 0] 55)) h 55 (vals [0, 0, 0, 0, 0])) := Lib.hid (by rw [hh]; exact Arr.new w1 _ _)
  have K2 := Lib.hid (K1.out.lit (.cells #[.int .u8 0, .int .u8 0, .int .u8 0, .int .u8 0, .int .u8 0] 55))
  have S2 := Lib.hid (DL.start 5)
  clear hh K1
  go_wp2
  rw [← HH.out]
  go_loopw [4, 7, 8, 9, 10, 11, 12] (fun _ iv _ _ _ _ _ wr => ∃ (i : Nat) (s : Dk) (hs : List Int), i ≤ 20 ∧ i ≤ len ∧ iv = .int .i64 (i : Int) ∧ DL.LastI 5 i s hs ∧ Arr wr h 55 (vals hs) ∧ DkIn w wr b s [h]) (fun _ iv _ _ _ _ _ _ => 20 - (intOf iv).toNat)
  case atStart => exact ⟨0, _, _, by omega, by omega, rfl, S2.out, AR1.out, by have := K2.out; rw [← HH.out] at this; exact this⟩
  case round =>
    obtain ⟨i, s, hs, hi, hil, rfl, hS, hA, hd⟩ := hrel
    have HS := Lib.hid hS; have HA := Lib.hid hA; have HD := Lib.hid hd
    clear hS hA hd
    by_cases hlt : i < len
    · by_cases h20 : i < 20
      · have t1 : decide ((i : Int) < (len : Int)) = true := by rw [decide_eq_true_eq]; omega
        have t2 : decide ((i : Int) < 20) = true := by rw [decide_eq_true_eq]; omega
        obtain ⟨bb, oo, rfl, hbb, c0, c1, _, _, c4, _, _, _, ⟨_, hii, _, _, hxx, _⟩, _⟩ := HR.out i hlt
        have l1 : (i : Int) < (len : Int) := by omega
        have l0 : (0 : Int) ≤ (i : Int) := by omega
        have z1 := HD.out.2.cell (p := ⟨bb, oo + i * 8 + 1, none⟩) hbb
        rw [c1] at z1
        have z4 := HD.out.2.cell (p := ⟨bb, oo + i * 8 + 4, none⟩) hbb
        rw [c4] at z4
        have C4 := Lib.hid c4
        have HIi := Lib.hid hii
        have HXi := Lib.hid hxx
        obtain ⟨x0, x1⟩ := id hxx
        clear hii hxx c0 c1 c4
        generalize (f i).i = fi at *
        generalize (f i).x = fx at *
        go_wp2_with fail
        refine (within_in fi 0 4 HIi.out (by decide) (by decide) (by decide) (by decide) _).mono ?_
        rintro e m1 ⟨yy, rfl, yy0, yy1, rfl⟩
        obtain ⟨k, rfl⟩ : ∃ k : Nat, yy = (k : Int) := ⟨yy.toNat, by omega⟩
        have hk : k < 5 := by omega
        go_wp2_with fail
        refine (fill_any fx HXi.out wr).mono ?_
        rintro e w3 f3
        have K3 := Lib.hid (HD.out.filled f3)
        have A3 := Lib.hid (HA.out.below f3.2.2)
        obtain ⟨rfl, o3, _⟩ := f3
        have O3 := Lib.hid o3
        clear o3 HD HA
        go_wp2_with fail
        refine (in_write w b s _ k 128 _ _ w3 K3.out (by rw [HS.out.len]; exact hk) (IsBlk.fill HXi.out) _ O3.out (by simp) (by have := HS.out.wt; omega) (by have := HS.out.wrote; omega)).mono ?_
        rintro e w4 ⟨rfl, t4⟩
        rw [Dk.says_goes HS.out.free.goes]
        have K4 := Lib.hid t4.pop.1
        have A4 := Lib.hid (A3.out.same (t4.2.1 h (by simp)))
        have S4 := Lib.hid (HS.out.write k fx hk HXi.out)
        have z5 := K4.out.2.cell (p := ⟨bb, oo + i * 8 + 4, none⟩) hbb
        rw [C4.out] at z5
        have yh := A4.out.cell k
        rw [vals_at hs k (by rw [HS.out.hl]; exact hk)] at yh
        have fh := A4.out.frozen k
        have A5 := Lib.hid (A4.out.set k (.int .u8 fx))
        have K5 := Lib.hid (K4.out.set (g := h) (by simp) hwh k (.int .u8 fx))
        have k5 : (k : Int) < 5 := by omega
        have k6 : (0 : Int) ≤ (k : Int) := by omega
        rw [vals_set] at A5
        generalize hs.getD k 0 = v at *
        generalize hs.set k fx = hs' at *
        generalize s.write k (fillB fx) = s' at *
        clear t4 K3 A3 O3 z1 z4 HS K4 A4
        go_upto_region 12 with fail
        go_cut [61] (fun v wd => v = .bool false ∧ ∃ s'', DL.LastI 5 (i + 1) s'' hs' ∧ Arr wd h 55 (vals hs') ∧ DkIn w wd b s'' [h])
        case first =>
          go_wp2_with fail
          refine (within_in fl 0 19 HF.out (by decide) (by decide) (by decide) (by decide) _).mono ?_
          rintro e m2 ⟨y, rfl, y0, y1, rfl⟩
          by_cases hy : (i : Int) = y
          · subst hy
            go_wp2_with fail
            refine (in_flush w b s' [h] _ K5.out (by have := S4.out.wt; omega)).mono ?_
            rintro e w6 ⟨rfl, t6⟩
            rw [Dk.says_goes S4.out.free.goes]
            have K6 := Lib.hid t6.1
            have A6 := Lib.hid (A5.out.same (t6.2.1 h (by simp)))
            go_wp2
            go_meet
            case rel => exact ⟨rfl, _, S4.out.flush K5.out.ok, A6.out, K6.out⟩
          · have ty : ((i : Int) == y) = false := by simpa using hy
            go_wp2
            go_meet
            case rel => exact ⟨rfl, _, S4.out, A5.out, K5.out⟩
        case rest =>
          obtain ⟨rfl, s7, hS7, hA7, hd7⟩ := hcut
          obtain ⟨a0, a1, a2, a3, a4, rfl⟩ := DL.five hs' hS7.hl
          have HS7 := Lib.hid hS7; have HA7 := Lib.hid hA7; have HD7 := Lib.hid hd7
          have q0 : wc.cell? ⟨h, 0, none⟩ = some (.int .u8 a0) := hA7.cell 0
          have q1 : wc.cell? ⟨h, 1, none⟩ = some (.int .u8 a1) := hA7.cell 1
          have q2 : wc.cell? ⟨h, 2, none⟩ = some (.int .u8 a2) := hA7.cell 2
          have q3 : wc.cell? ⟨h, 3, none⟩ = some (.int .u8 a3) := hA7.cell 3
          have q4 : wc.cell? ⟨h, 4, none⟩ = some (.int .u8 a4) := hA7.cell 4
          clear hS7 hA7 hd7 S4 K5 A5 z5 yh fh
          go_wp2
          go_loopw [4, 9, 10, 11, 12, 63] (fun _ _ _ _ _ jv wr => ∃ j : Nat, j ≤ 5 ∧ jv = .int .i64 (j : Int) ∧ Arr wr h 55 (vals [a0, a1, a2, a3, a4]) ∧ DkIn w wr b s7 [h]) (fun _ _ _ _ _ jv _ => 5 - (intOf jv).toNat)
          case atStart => exact ⟨0, by decide, rfl, HA7.out, HD7.out⟩
          case round =>
            obtain ⟨j, hj, rfl, hA, hd⟩ := hrel
            have HA := Lib.hid hA; have HD := Lib.hid hd
            clear hA hd
            rcases j with _ | _ | _ | _ | _ | j
            · have rdj := HS7.out.rd 0 (by decide)
              have rdj' : s7.read 0 = some (fillB a0) := rdj
              have RDJ := Lib.hid rdj'
              have UX := Lib.hid (HS7.out.hu 0 (by decide) : U8 a0)
              have ix : (Instr.index 55 (.agg #[.int .u8 a0, .int .u8 a1, .int .u8 a2, .int .u8 a3, .int .u8 a4]) (.int .i64 0)).run Try.prog wr = .ok (.int .u8 a0) wr := rfl
              obtain ⟨v0, v1⟩ := id UX.out
              clear rdj rdj'
              go_wp2_with fail
              refine (in_read w b s7 [h] 0 _ wr HD.out (by rw [HS7.out.len]; decide) RDJ.out (by have := HS7.out.wt; omega)).mono ?_
              rintro e w8 ⟨g, c, rfl, og, t8, k8⟩
              have A8 := Lib.hid (HA.out.same (t8.2.1 h (by simp)))
              have K8 := Lib.hid k8; have OG := Lib.hid og
              have hgh : h ≠ g := by have := og.lt; have := HA.out.lt; omega
              have hgw : w.heap.size ≤ g := by have := og.lt; have := HD.out.2.size; omega
              clear t8 k8 og HD HA
              go_wp2_with fail
              refine (fill_any a0 UX.out w8).mono ?_
              rintro e w9 f9
              have K9 := Lib.hid (K8.out.below f9.2.2)
              have A9 := Lib.hid (A8.out.below f9.2.2)
              have OG9 := Lib.hid (OG.out.below f9.2.2)
              obtain ⟨rfl, o9, _⟩ := f9
              have O9 := Lib.hid o9
              clear o9 K8 A8 OG
              go_wp2_with fail
              refine (bsame_yes _ _ _ 128 c 128 (fillB a0) w9 (by decide) (fillB_length a0) OG9.out.reads O9.out.reads (Nat.le_refl _)).mono ?_
              rintro e w10 ⟨rfl, b10⟩
              have K10 := Lib.hid (K9.out.below b10)
              have A10 := Lib.hid (A9.out.below b10)
              have OG10 := Lib.hid (OG9.out.below b10)
              have y0 := OG10.out.cell (k := 0) (by rw [fillB_length]; decide)
              rw [fillB_at a0 0 (by decide)] at y0
              have fy := OG10.out.frozen 0
              clear b10 K9 A9 OG9 O9
              obtain ⟨q, hq⟩ : ∃ q, bits .xor .u8 a0 255 = q := ⟨_, rfl⟩
              go_wp2
              go_roundw
              case rel => exact ⟨1, by decide, rfl, A10.out.far hgh _, (K10.out.set (g := g) (by simp) hgw 0 _).less (fun y hy => by simp at hy ⊢; exact Or.inr hy)⟩
              case measure => simp [intOf]
            · have rdj := HS7.out.rd 1 (by decide)
              have rdj' : s7.read 1 = some (fillB a1) := rdj
              have RDJ := Lib.hid rdj'
              have UX := Lib.hid (HS7.out.hu 1 (by decide) : U8 a1)
              have ix : (Instr.index 55 (.agg #[.int .u8 a0, .int .u8 a1, .int .u8 a2, .int .u8 a3, .int .u8 a4]) (.int .i64 1)).run Try.prog wr = .ok (.int .u8 a1) wr := rfl
              obtain ⟨v0, v1⟩ := id UX.out
              clear rdj rdj'
              go_wp2_with fail
              refine (in_read w b s7 [h] 1 _ wr HD.out (by rw [HS7.out.len]; decide) RDJ.out (by have := HS7.out.wt; omega)).mono ?_
              rintro e w8 ⟨g, c, rfl, og, t8, k8⟩
              have A8 := Lib.hid (HA.out.same (t8.2.1 h (by simp)))
              have K8 := Lib.hid k8; have OG := Lib.hid og
              have hgh : h ≠ g := by have := og.lt; have := HA.out.lt; omega
              have hgw : w.heap.size ≤ g := by have := og.lt; have := HD.out.2.size; omega
              clear t8 k8 og HD HA
              go_wp2_with fail
              refine (fill_any a1 UX.out w8).mono ?_
              rintro e w9 f9
              have K9 := Lib.hid (K8.out.below f9.2.2)
              have A9 := Lib.hid (A8.out.below f9.2.2)
              have OG9 := Lib.hid (OG.out.below f9.2.2)
              obtain ⟨rfl, o9, _⟩ := f9
              have O9 := Lib.hid o9
              clear o9 K8 A8 OG
              go_wp2_with fail
              refine (bsame_yes _ _ _ 128 c 128 (fillB a1) w9 (by decide) (fillB_length a1) OG9.out.reads O9.out.reads (Nat.le_refl _)).mono ?_
              rintro e w10 ⟨rfl, b10⟩
              have K10 := Lib.hid (K9.out.below b10)
              have A10 := Lib.hid (A9.out.below b10)
              have OG10 := Lib.hid (OG9.out.below b10)
              have y0 := OG10.out.cell (k := 0) (by rw [fillB_length]; decide)
              rw [fillB_at a1 0 (by decide)] at y0
              have fy := OG10.out.frozen 0
              clear b10 K9 A9 OG9 O9
              obtain ⟨q, hq⟩ : ∃ q, bits .xor .u8 a1 255 = q := ⟨_, rfl⟩
              go_wp2
              go_roundw
              case rel => exact ⟨2, by decide, rfl, A10.out.far hgh _, (K10.out.set (g := g) (by simp) hgw 0 _).less (fun y hy => by simp at hy ⊢; exact Or.inr hy)⟩
              case measure => simp [intOf]
            · have rdj := HS7.out.rd 2 (by decide)
              have rdj' : s7.read 2 = some (fillB a2) := rdj
              have RDJ := Lib.hid rdj'
              have UX := Lib.hid (HS7.out.hu 2 (by decide) : U8 a2)
              have ix : (Instr.index 55 (.agg #[.int .u8 a0, .int .u8 a1, .int .u8 a2, .int .u8 a3, .int .u8 a4]) (.int .i64 2)).run Try.prog wr = .ok (.int .u8 a2) wr := rfl
              obtain ⟨v0, v1⟩ := id UX.out
              clear rdj rdj'
              go_wp2_with fail
              refine (in_read w b s7 [h] 2 _ wr HD.out (by rw [HS7.out.len]; decide) RDJ.out (by have := HS7.out.wt; omega)).mono ?_
              rintro e w8 ⟨g, c, rfl, og, t8, k8⟩
              have A8 := Lib.hid (HA.out.same (t8.2.1 h (by simp)))
              have K8 := Lib.hid k8; have OG := Lib.hid og
              have hgh : h ≠ g := by have := og.lt; have := HA.out.lt; omega
              have hgw : w.heap.size ≤ g := by have := og.lt; have := HD.out.2.size; omega
              clear t8 k8 og HD HA
              go_wp2_with fail
              refine (fill_any a2 UX.out w8).mono ?_
              rintro e w9 f9
              have K9 := Lib.hid (K8.out.below f9.2.2)
              have A9 := Lib.hid (A8.out.below f9.2.2)
              have OG9 := Lib.hid (OG.out.below f9.2.2)
              obtain ⟨rfl, o9, _⟩ := f9
              have O9 := Lib.hid o9
              clear o9 K8 A8 OG
              go_wp2_with fail
              refine (bsame_yes _ _ _ 128 c 128 (fillB a2) w9 (by decide) (fillB_length a2) OG9.out.reads O9.out.reads (Nat.le_refl _)).mono ?_
              rintro e w10 ⟨rfl, b10⟩
              have K10 := Lib.hid (K9.out.below b10)
              have A10 := Lib.hid (A9.out.below b10)
              have OG10 := Lib.hid (OG9.out.below b10)
              have y0 := OG10.out.cell (k := 0) (by rw [fillB_length]; decide)
              rw [fillB_at a2 0 (by decide)] at y0
              have fy := OG10.out.frozen 0
              clear b10 K9 A9 OG9 O9
              obtain ⟨q, hq⟩ : ∃ q, bits .xor .u8 a2 255 = q := ⟨_, rfl⟩
              go_wp2
              go_roundw
              case rel => exact ⟨3, by decide, rfl, A10.out.far hgh _, (K10.out.set (g := g) (by simp) hgw 0 _).less (fun y hy => by simp at hy ⊢; exact Or.inr hy)⟩
              case measure => simp [intOf]
            · have rdj := HS7.out.rd 3 (by decide)
              have rdj' : s7.read 3 = some (fillB a3) := rdj
              have RDJ := Lib.hid rdj'
              have UX := Lib.hid (HS7.out.hu 3 (by decide) : U8 a3)
              have ix : (Instr.index 55 (.agg #[.int .u8 a0, .int .u8 a1, .int .u8 a2, .int .u8 a3, .int .u8 a4]) (.int .i64 3)).run Try.prog wr = .ok (.int .u8 a3) wr := rfl
              obtain ⟨v0, v1⟩ := id UX.out
              clear rdj rdj'
              go_wp2_with fail
              refine (in_read w b s7 [h] 3 _ wr HD.out (by rw [HS7.out.len]; decide) RDJ.out (by have := HS7.out.wt; omega)).mono ?_
              rintro e w8 ⟨g, c, rfl, og, t8, k8⟩
              have A8 := Lib.hid (HA.out.same (t8.2.1 h (by simp)))
              have K8 := Lib.hid k8; have OG := Lib.hid og
              have hgh : h ≠ g := by have := og.lt; have := HA.out.lt; omega
              have hgw : w.heap.size ≤ g := by have := og.lt; have := HD.out.2.size; omega
              clear t8 k8 og HD HA
              go_wp2_with fail
              refine (fill_any a3 UX.out w8).mono ?_
              rintro e w9 f9
              have K9 := Lib.hid (K8.out.below f9.2.2)
              have A9 := Lib.hid (A8.out.below f9.2.2)
              have OG9 := Lib.hid (OG.out.below f9.2.2)
              obtain ⟨rfl, o9, _⟩ := f9
              have O9 := Lib.hid o9
              clear o9 K8 A8 OG
              go_wp2_with fail
              refine (bsame_yes _ _ _ 128 c 128 (fillB a3) w9 (by decide) (fillB_length a3) OG9.out.reads O9.out.reads (Nat.le_refl _)).mono ?_
              rintro e w10 ⟨rfl, b10⟩
              have K10 := Lib.hid (K9.out.below b10)
              have A10 := Lib.hid (A9.out.below b10)
              have OG10 := Lib.hid (OG9.out.below b10)
              have y0 := OG10.out.cell (k := 0) (by rw [fillB_length]; decide)
              rw [fillB_at a3 0 (by decide)] at y0
              have fy := OG10.out.frozen 0
              clear b10 K9 A9 OG9 O9
              obtain ⟨q, hq⟩ : ∃ q, bits .xor .u8 a3 255 = q := ⟨_, rfl⟩
              go_wp2
              go_roundw
              case rel => exact ⟨4, by decide, rfl, A10.out.far hgh _, (K10.out.set (g := g) (by simp) hgw 0 _).less (fun y hy => by simp at hy ⊢; exact Or.inr hy)⟩
              case measure => simp [intOf]
            · have rdj := HS7.out.rd 4 (by decide)
              have rdj' : s7.read 4 = some (fillB a4) := rdj
              have RDJ := Lib.hid rdj'
              have UX := Lib.hid (HS7.out.hu 4 (by decide) : U8 a4)
              have ix : (Instr.index 55 (.agg #[.int .u8 a0, .int .u8 a1, .int .u8 a2, .int .u8 a3, .int .u8 a4]) (.int .i64 4)).run Try.prog wr = .ok (.int .u8 a4) wr := rfl
              obtain ⟨v0, v1⟩ := id UX.out
              clear rdj rdj'
              go_wp2_with fail
              refine (in_read w b s7 [h] 4 _ wr HD.out (by rw [HS7.out.len]; decide) RDJ.out (by have := HS7.out.wt; omega)).mono ?_
              rintro e w8 ⟨g, c, rfl, og, t8, k8⟩
              have A8 := Lib.hid (HA.out.same (t8.2.1 h (by simp)))
              have K8 := Lib.hid k8; have OG := Lib.hid og
              have hgh : h ≠ g := by have := og.lt; have := HA.out.lt; omega
              have hgw : w.heap.size ≤ g := by have := og.lt; have := HD.out.2.size; omega
              clear t8 k8 og HD HA
              go_wp2_with fail
              refine (fill_any a4 UX.out w8).mono ?_
              rintro e w9 f9
              have K9 := Lib.hid (K8.out.below f9.2.2)
              have A9 := Lib.hid (A8.out.below f9.2.2)
              have OG9 := Lib.hid (OG.out.below f9.2.2)
              obtain ⟨rfl, o9, _⟩ := f9
              have O9 := Lib.hid o9
              clear o9 K8 A8 OG
              go_wp2_with fail
              refine (bsame_yes _ _ _ 128 c 128 (fillB a4) w9 (by decide) (fillB_length a4) OG9.out.reads O9.out.reads (Nat.le_refl _)).mono ?_
              rintro e w10 ⟨rfl, b10⟩
              have K10 := Lib.hid (K9.out.below b10)
              have A10 := Lib.hid (A9.out.below b10)
              have OG10 := Lib.hid (OG9.out.below b10)
              have y0 := OG10.out.cell (k := 0) (by rw [fillB_length]; decide)
              rw [fillB_at a4 0 (by decide)] at y0
              have fy := OG10.out.frozen 0
              clear b10 K9 A9 OG9 O9
              obtain ⟨q, hq⟩ : ∃ q, bits .xor .u8 a4 255 = q := ⟨_, rfl⟩
              go_wp2
              go_roundw
              case rel => exact ⟨5, by decide, rfl, A10.out.far hgh _, (K10.out.set (g := g) (by simp) hgw 0 _).less (fun y hy => by simp at hy ⊢; exact Or.inr hy)⟩
              case measure => simp [intOf]
            · obtain rfl : j = 0 := by omega
              go_wp2
              go_roundw
              case rel => exact ⟨i + 1, _, _, by omega, by omega, by go_num, HS7.out, HA.out, HD.out⟩
              case measure => simp [intOf]; omega
      · have t1 : decide ((i : Int) < (len : Int)) = true := by rw [decide_eq_true_eq]; omega
        have t2 : decide ((i : Int) < 20) = false := by rw [decide_eq_false_iff_not]; omega
        go_wp2_with fail
        refine (in_unread w b s [h] (-1) wr HD.out (by decide) (by decide) (Or.inl (by decide)) (by have := HS.out.wt; omega)).mono ?_
        rintro e w6 ⟨rfl, t6⟩
        have K6 := Lib.hid t6.1
        clear t6 HD
        go_wp2_with fail
        refine (in_unread w b s [h] 5 w6 K6.out (by decide) (by decide) (Or.inr (Or.inl (by rw [HS.out.len]; decide))) (by have := HS.out.wt; omega)).mono ?_
        rintro e w7 ⟨rfl, t7⟩
        have B7 := Lib.hid t7.1.2
        clear t7 K6
        go_wp2_with fail
        refine (druns_any w7).mono ?_
        rintro e w8 ⟨rfl, b8⟩
        have B8 := Lib.hid (bstep B7.out b8)
        clear b8 B7
        go_wp2
        go_ret
        exact ⟨rfl, B8.out⟩
    · have t1 : decide ((i : Int) < (len : Int)) = false := by rw [decide_eq_false_iff_not]; omega
      go_wp2_with fail
      refine (in_unread w b s [h] (-1) wr HD.out (by decide) (by decide) (Or.inl (by decide)) (by have := HS.out.wt; omega)).mono ?_
      rintro e w6 ⟨rfl, t6⟩
      have K6 := Lib.hid t6.1
      clear t6 HD
      go_wp2_with fail
      refine (in_unread w b s [h] 5 w6 K6.out (by decide) (by decide) (Or.inr (Or.inl (by rw [HS.out.len]; decide))) (by have := HS.out.wt; omega)).mono ?_
      rintro e w7 ⟨rfl, t7⟩
      have B7 := Lib.hid t7.1.2
      clear t7 K6
      go_wp2_with fail
      refine (druns_any w7).mono ?_
      rintro e w8 ⟨rfl, b8⟩
      have B8 := Lib.hid (bstep B7.out b8)
      clear b8 B7
      go_wp2
      go_ret
      exact ⟨rfl, B8.out⟩
end Go.Proofs.Ytaehgpieichjkaa
