/-
  The walk of the statement BurstTells: for every slice of bytes the call returns true; nothing that was in memory turns.
-/
import Derived.Test.YtikfjaimhmgajaaURuns
import Derived.Test.YtikfjaimhmgajaaBBytes
import Derived.Test.YtikfjaimhmgajaaRefCrc
import Derived.Lib.MinMax
import Derived.Deep.DeepCutAuto
import Derived.Deep.RegionHeld3
namespace Go.Proofs.Ytikfjaimhmgajaa
set_option linter.unusedVariables false
set_option linter.unusedSimpArgs false
open Go.RowKit

theorem rcrc_n (N : Nat) (A : Option Addr) (n cap : Nat) (xs : List Int) (hl : xs.length = n) (hm : n ≤ maxLen) (w : World) (hr : RdB w N A xs) :
    Calls Try.prog 12 #[.slice A n cap] w fun e w' => e = .returned (.int .u32 (wrd (crc xs))) ∧ w = w' := by
  subst hl
  exact rcrc_any N A cap xs hm w hr

set_option maxRecDepth 100000 in
set_option maxHeartbeats 2000000 in
theorem tells_any (A : Option Addr) (len cap : Nat) (xs : List Int) (w : World) (hlen : xs.length = len) (hr : RdB w w.heap.size A xs) (h1 : len ≤ cap) (h2 : cap ≤ maxLen) (hA : A = none → cap = 0) :
    Calls Try.prog 4 #[.slice A len cap] w fun e w' => e = .returned (.bool true) ∧ Below w.heap.size w w' := by
  unfold maxLen at h2
  obtain ⟨n, hn⟩ : ∃ n : Nat, n = min len 90 := ⟨_, rfl⟩
  have e1 : min (len : Int) 90 = (n : Int) := by omega
  have n1 : n ≤ 90 := by omega
  have n2 : n ≤ len := by omega
  clear hn
  have hr' := hr.take n
  obtain ⟨ys, hys⟩ : ∃ ys, ys = xs.take n := ⟨_, rfl⟩
  have hyl : ys.length = n := by rw [hys, List.length_take]; omega
  rw [← hys] at hr'
  have HR := Lib.hid hr'; have HA := Lib.hid hA; have HL := Lib.hid hyl
  clear hr hA hr' hys hlen hyl
  go_enter Try.func4, Try.ntmps4
  go_wp2_with (at_builtin; go_loud (refine app_rd _ rfl _ _ rfl w.heap.size w.heap.size 0 0 [] rfl rfl (Own.empty w _ (Nat.le_refl _)) w.heap.size A n cap ys HL.out rfl ?c2 HA.out ?c3 ?c4 ?_))
  case c2 => exact HR.out.below ((Below.refl _ _).alloc (Nat.le_refl _) _)
  case c3 => omega
  case c4 => simp
  intro g c w1 ow hgr
  have b1 : Below w.heap.size w w1 := below_grown ((Below.refl _ _).alloc (Nat.le_refl _) _) hgr (Nat.le_refl _)
  have OW := Lib.hid ow
  have q1 : n ≤ c := by have := ow.cap.1; rw [HL.out] at this; exact this
  have q1' := ow.cap.2
  unfold maxLen at q1'
  clear ow hgr
  have rm := fun N A' c' w0 hr hN => roomy_any N A' n c' ys 7 w0 (by omega) HL.out hr hN ⟨by decide, by decide⟩
  have RM := Lib.hid rm
  clear rm
  go_wp2_with fail
  refine (RM.out _ _ c w1 OW.out.reads (Nat.le_refl _)).mono ?_
  rintro e w2 ⟨gf, rfl, of2, b2⟩
  have OF2 := Lib.hid of2
  have OW2 := Lib.hid (OW.out.below b2)
  have B2 := bstep b1 b2
  clear of2 OW b1 b2 RM
  have cl := fun N A' c' w0 hr hN => close_any N A' n c' ys HL.out (by omega) w0 hr hN
  have CL := Lib.hid cl
  clear cl
  have rf : RdB w2 w2.heap.size (some ⟨gf, 0, none⟩) ys := by
    have := OF2.out.reads.take n
    rw [roomy_take ys 7 n HL.out] at this
    exact this
  have RF := Lib.hid rf
  clear rf
  go_wp2_with fail
  refine (CL.out _ _ (n + 80) w2 RF.out (Nat.le_refl _) (fun h => by cases h)).mono ?_
  rintro e w3 ⟨gc, cc, rfl, oc, b3⟩
  have OC := Lib.hid oc
  have OW3 := Lib.hid (OW2.out.below b3)
  have OF3 := Lib.hid (OF2.out.below b3)
  have B3 := bstep B2 b3
  clear oc OW2 OF2 B2 b3 CL RF
  have cr := fun N A' c' w0 hr => rcrc_n N A' n c' ys HL.out (by unfold maxLen; omega) w0 hr
  have CR := Lib.hid cr
  clear cr
  go_wp2_with fail
  refine (CR.out _ _ c w3 OW3.out.reads).mono ?_
  rintro e w' ⟨rfl, rfl⟩
  clear CR
  obtain ⟨D, hD⟩ : ∃ D, D = crc ys := ⟨_, rfl⟩
  rw [← hD] at OC ⊢
  have HD := Lib.hid hD
  clear hD
  obtain ⟨v0, v1⟩ := u32_bd D
  go_wp2_with (at_builtin; go_loud (refine app_rd _ rfl _ _ rfl w3.heap.size w3.heap.size 0 0 [] rfl rfl (Own.empty w3 _ (Nat.le_refl _)) (w3.alloc (.cells #[] 5)).heap.size (some ⟨g, 0, none⟩) n c ys HL.out rfl ?c5 (fun h => by cases h) ?c6 ?c7 ?_))
  case c5 => exact (OW3.out.alloc _).reads
  case c6 => omega
  case c7 => simp
  intro gw cw w4 ov hgr
  have B4 : Below w.heap.size w w4 := below_grown (B3.alloc B3.size _) hgr B3.size
  have lt3 : g < w3.heap.size := OW3.out.lt.2
  have lt3c : gc < w3.heap.size := OC.out.lt.2
  have lt3f : gf < w3.heap.size := OF3.out.lt.2
  have OW4 := Lib.hid ((OW3.out.alloc _).grown hgr (by omega))
  have OC4 := Lib.hid ((OC.out.alloc _).grown hgr (by omega))
  have OF4 := Lib.hid ((OF3.out.alloc _).grown hgr (by omega))
  have gw0 : w3.heap.size ≤ gw := ov.lt.1
  have sz3 := B3.size
  have OV := Lib.hid ov
  clear ov hgr OW3 OC OF3 B3
  obtain ⟨d0, d1, d2, d3, hle, ⟨ud0, ud1, ud2, ud3⟩, r0, r1, r2, r3⟩ := bytes_of D
  have HLE := Lib.hid hle
  clear hle
  have u4 : ∀ k, k < ([d0, d1, d2, d3] : List Int).length → U8 (([d0, d1, d2, d3] : List Int).getD k 0) := fun k hk => by
    match k, hk with
    | 0, _ => exact ud0
    | 1, _ => exact ud1
    | 2, _ => exact ud2
    | 3, _ => exact ud3
  have U4 := Lib.hid u4
  clear u4
  go_wp2_with (at_builtin; go_loud (refine app_rd _ rfl _ _ rfl w3.heap.size gw cw n ys HL.out rfl (OV.out.alloc _) (w4.heap.size + 1) (some ⟨w4.heap.size, 0, none⟩) 4 4 [d0, d1, d2, d3] rfl rfl ?c8 (fun h => by cases h) ?c9 ?c10 ?_))
  case c8 => exact RdB.lit w4 #[.int .u8 d0, .int .u8 d1, .int .u8 d2, .int .u8 d3] 5 _ [d0, d1, d2, d3] rfl U4.out
  case c9 => omega
  case c10 => have := OV.out.lt; simp; omega
  intro gv cv w5 o5 hgr
  have lt4 : w3.heap.size ≤ w4.heap.size := by have := OV.out.lt; omega
  have B5 : Below w.heap.size w w5 := below_grown (B4.alloc B4.size _) hgr (by omega)
  have OW5 := Lib.hid ((OW4.out.alloc _).grown hgr (by omega))
  have OC5 := Lib.hid ((OC4.out.alloc _).grown hgr (by omega))
  have OF5 := Lib.hid ((OF4.out.alloc _).grown hgr (by omega))
  rw [← HLE.out] at o5
  have OV5 := Lib.hid o5
  clear o5 hgr OW4 OC4 OF4 B4 OV r0 r1 r2 r3
  go_upto_if 46 with fail
  go_cut [8] (fun v wd => v = .bool (goodB ys) ∧ Own wd w.heap.size g c ys ∧ Own wd w2.heap.size gc cc (ys ++ le4 D) ∧ Own wd w1.heap.size gf (n + 80) (roomy ys 7) ∧ Own wd w3.heap.size gv cv (ys ++ le4 D) ∧ Below w.heap.size w wd)
  case first =>
    by_cases h4 : n < 4
    · have gf4 : goodB ys = false := by unfold goodB; rw [HL.out]; simp; omega
      have d4 : decide (4 ≤ (n : Int)) = false := by simp; omega
      have d4' : decide ((n : Int) ≥ 4) = false := by simp; omega
      have d4n : ¬ 4 ≤ n := by omega
      go_wp2
      go_meet
      case rel => exact ⟨by rw [gf4, d4], OW5.out, OC5.out, OF5.out, OV5.out, B5⟩
    · have d4 : decide (4 ≤ (n : Int)) = true := by simp; omega
      have d4' : decide ((n : Int) ≥ 4) = true := by simp; omega
      have d4n : 4 ≤ n := by omega
      obtain ⟨m, hm⟩ : ∃ m : Nat, n = m + 4 := ⟨n - 4, by omega⟩
      have im : (n : Int) - 4 = (m : Int) := by omega
      have lm : (ys.take m).length = m := by rw [List.length_take, HL.out]; omega
      have hrd := OW5.out.reads.take m
      have cr := fun N A' c' w0 hr => rcrc_n N A' m c' (ys.take m) lm (by unfold maxLen; omega) w0 hr
      obtain ⟨x0, x1, x2, x3, hxe, ⟨ux0, ux1, ux2, ux3⟩, r0, r1, r2, r3⟩ := bytes_of (crc (ys.take m))
      have gl := good_last ys m x0 x1 x2 x3 (by rw [HL.out]; exact hm) OW5.out.2 hxe
      have c0 := OW5.out.cell (k := m) (by rw [HL.out]; omega)
      have c1 := OW5.out.cell (k := m + 1) (by rw [HL.out]; omega)
      have c2 := OW5.out.cell (k := m + 2) (by rw [HL.out]; omega)
      have c3 := OW5.out.cell (k := m + 3) (by rw [HL.out]; omega)
      obtain ⟨E, hE⟩ : ∃ E, E = crc (ys.take m) := ⟨_, rfl⟩
      rw [← hE] at cr r0 r1 r2 r3
      generalize ys.getD m 0 = a0 at *
      generalize ys.getD (m + 1) 0 = a1 at *
      generalize ys.getD (m + 2) 0 = a2 at *
      generalize ys.getD (m + 3) 0 = a3 at *
      have CR := Lib.hid cr; have HRD := Lib.hid hrd; have GL := Lib.hid gl; have HM := Lib.hid hm
      obtain ⟨v2, v3⟩ := u32_bd E
      clear cr hrd gl hxe hE lm
      go_wp2_with fail
      refine (CR.out _ _ c w5 HRD.out).mono ?_
      rintro e w' ⟨rfl, rfl⟩
      have i1 : IntKind.i64.wrap ((m : Int) + 1) = (m : Int) + 1 := by rw [IntKind.wrap_i64]; omega
      have i2 : IntKind.i64.wrap ((m : Int) + 2) = (m : Int) + 2 := by rw [IntKind.wrap_i64]; omega
      have i3 : IntKind.i64.wrap ((m : Int) + 3) = (m : Int) + 3 := by rw [IntKind.wrap_i64]; omega
      have j0 : (0 : Int) ≤ (m : Int) ∧ (m : Int) < (n : Int) := by omega
      have j1 : (0 : Int) ≤ (m : Int) + 1 ∧ (m : Int) + 1 < (n : Int) := by omega
      have j2 : (0 : Int) ≤ (m : Int) + 2 ∧ (m : Int) + 2 < (n : Int) := by omega
      have j3 : (0 : Int) ≤ (m : Int) + 3 ∧ (m : Int) + 3 < (n : Int) := by omega
      have k1 : ((m : Int) + 1).toNat = m + 1 := by omega
      have k2 : ((m : Int) + 2).toNat = m + 2 := by omega
      have k3 : ((m : Int) + 3).toNat = m + 3 := by omega
      obtain ⟨j01, j02⟩ := j0; obtain ⟨j11, j12⟩ := j1; obtain ⟨j21, j22⟩ := j2; obtain ⟨j31, j32⟩ := j3
      clear CR HRD im
      clear hm
      have tests : (Hid (goodB ys = true) ∧ (a0 == x0) = true ∧ (a1 == x1) = true ∧ (a2 == x2) = true ∧ (a3 == x3) = true) ∨ (Hid (goodB ys = false) ∧ (a0 == x0) = true ∧ (a1 == x1) = true ∧ (a2 == x2) = true ∧ (a3 == x3) = false) ∨ (Hid (goodB ys = false) ∧ (a0 == x0) = true ∧ (a1 == x1) = true ∧ (a2 == x2) = false ∧ True) ∨ (Hid (goodB ys = false) ∧ (a0 == x0) = true ∧ (a1 == x1) = false ∧ True ∧ True) ∨ (Hid (goodB ys = false) ∧ (a0 == x0) = false ∧ True ∧ True ∧ True) := by
        have no : ¬ (a0 = x0 ∧ a1 = x1 ∧ a2 = x2 ∧ a3 = x3) → goodB ys = false := fun h => by
          cases hg : goodB ys
          · rfl
          · exact absurd (GL.out.1 hg) h
        by_cases p0 : a0 = x0
        · by_cases p1 : a1 = x1
          · by_cases p2 : a2 = x2
            · by_cases p3 : a3 = x3
              · exact Or.inl ⟨Lib.hid (GL.out.2 ⟨p0, p1, p2, p3⟩), by simpa using p0, by simpa using p1, by simpa using p2, by simpa using p3⟩
              · exact Or.inr (Or.inl ⟨Lib.hid (no fun h => p3 h.2.2.2), by simpa using p0, by simpa using p1, by simpa using p2, by simpa using p3⟩)
            · exact Or.inr (Or.inr (Or.inl ⟨Lib.hid (no fun h => p2 h.2.2.1), by simpa using p0, by simpa using p1, by simpa using p2, trivial⟩))
          · exact Or.inr (Or.inr (Or.inr (Or.inl ⟨Lib.hid (no fun h => p1 h.2.1), by simpa using p0, by simpa using p1, trivial, trivial⟩)))
        · exact Or.inr (Or.inr (Or.inr (Or.inr ⟨Lib.hid (no fun h => p0 h.1), by simpa using p0, trivial, trivial, trivial⟩)))
      clear GL
      rcases tests with ⟨GG, t0, t1, t2, t3⟩ | ⟨GG, t0, t1, t2, t3⟩ | ⟨GG, t0, t1, t2, t3⟩ | ⟨GG, t0, t1, t2, t3⟩ | ⟨GG, t0, t1, t2, t3⟩
      all_goals
        go_wp2
        go_meet
        case rel => exact ⟨by rw [GG.out], OW5.out, OC5.out, OF5.out, OV5.out, B5⟩
  case rest =>
    obtain ⟨rfl, ow, oc, of, ov, bel⟩ := hcut
    clear OW5 OC5 OF5 OV5 B5
    have s1 := fun N A' c' w0 hr hN => sum_any N A' n c' ys HL.out (by unfold maxLen; omega) w0 hr hN
    have s2 := fun N A' c' w0 hr hN => good_any N A' n c' ys HL.out (by omega) w0 hr hN
    have l4 : (ys ++ le4 D).length = n + 4 := by rw [List.length_append, HL.out]; rfl
    have s3 := fun w0 hA hB => bsame_yes w0.heap.size (some ⟨gc, 0, none⟩) (some ⟨gv, 0, none⟩) (n + 4) cc cv (ys ++ le4 D) w0 (by omega) l4 hA hB (Nat.le_refl _)
    have s4 := fun w0 hA hB => intact_yes w0.heap.size (some ⟨gf, 0, none⟩) (some ⟨g, 0, none⟩) n (n + 80) c ys 7 w0 (by omega) HL.out hA hB (Nat.le_refl _) ⟨by decide, by decide⟩ (Nat.le_refl _) (by unfold maxLen; omega)
    rw [← HD.out] at s1
    generalize goodB ys = G at *
    have S1 := Lib.hid s1; have S2 := Lib.hid s2; have S3 := Lib.hid s3; have S4 := Lib.hid s4
    have OW := Lib.hid ow; have OC := Lib.hid oc; have OF := Lib.hid of; have OV := Lib.hid ov
    clear s1 s2 s3 s4 ow oc of ov l4
    go_wp2_with fail
    refine (S1.out _ _ c wc OW.out.reads (Nat.le_refl _)).mono ?_
    rintro e m1 ⟨rfl, k1⟩
    have OW1 := Lib.hid (OW.out.below k1); have OC1 := Lib.hid (OC.out.below k1); have OF1 := Lib.hid (OF.out.below k1); have OV1 := Lib.hid (OV.out.below k1)
    have B1 := bstep bel k1
    clear OW OC OF OV bel k1
    go_wp2_with fail
    refine (S3.out m1 OC1.out.reads OV1.out.reads).mono ?_
    rintro e m2 ⟨rfl, k2⟩
    have OW2 := Lib.hid (OW1.out.below k2); have OF2 := Lib.hid (OF1.out.below k2)
    have B2 := bstep B1 k2
    clear OW1 OC1 OF1 OV1 B1 k2
    go_wp2_with fail
    refine (S2.out _ _ c m2 OW2.out.reads (Nat.le_refl _) OW2.out.cap.1).mono ?_
    rintro e m3 ⟨rfl, k3⟩
    have OW3 := Lib.hid (OW2.out.below k3); have OF3 := Lib.hid (OF2.out.below k3)
    have B3 := bstep B2 k3
    clear OW2 OF2 B2 k3
    go_wp2_with fail
    refine (S4.out m3 OF3.out.reads OW3.out.reads).mono ?_
    rintro e m4 ⟨rfl, k4⟩
    have B4 := bstep B3 k4
    clear OW3 OF3 B3 k4
    go_wp2_with fail
    refine (runs_any _).mono ?_
    rintro e m5 ⟨rfl, k5⟩
    go_wp2
    go_ret
    exact ⟨rfl, bstep B4 k5⟩
end Go.Proofs.Ytikfjaimhmgajaa
