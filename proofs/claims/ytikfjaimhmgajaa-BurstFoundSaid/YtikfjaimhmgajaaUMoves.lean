/-
  The walk of the statement BurstMoves: for every slice of bytes, every int and every byte the call returns true; nothing that was in memory turns.
-/
import Derived.Test.YtikfjaimhmgajaaURuns
import Derived.Test.YtikfjaimhmgajaaBBytes
import Derived.Test.YtikfjaimhmgajaaBWithinI
import Derived.Lib.MinMax
import Derived.Deep.DeepCutAuto
import Derived.Deep.RegionHeld3
namespace Go.Proofs.Ytikfjaimhmgajaa
set_option linter.unusedVariables false
set_option linter.unusedSimpArgs false
open Go.RowKit

set_option maxRecDepth 100000 in
set_option maxHeartbeats 2000000 in
theorem moves_any (A : Option Addr) (len cap : Nat) (xs : List Int) (t x : Int) (w : World) (hlen : xs.length = len) (hr : RdB w w.heap.size A xs) (h1 : len ≤ cap) (h2 : cap ≤ maxLen) (hA : A = none → cap = 0) (ht : I64 t) (hx : U8 x) :
    Calls Try.prog 7 #[.slice A len cap, .int .i64 t, .int .u8 x] w fun e w' => e = .returned (.bool true) ∧ Below w.heap.size w w' := by
  unfold maxLen at h2
  obtain ⟨n, hn⟩ : ∃ n : Nat, n = min len 80 := ⟨_, rfl⟩
  have e1 : min (len : Int) 80 = (n : Int) := by omega
  have n1 : n ≤ 80 := by omega
  have n2 : n ≤ len := by omega
  clear hn
  have hr' := hr.take n
  obtain ⟨ys, hys⟩ : ∃ ys, ys = xs.take n := ⟨_, rfl⟩
  have hyl : ys.length = n := by rw [hys, List.length_take]; omega
  rw [← hys] at hr'
  have HR := Lib.hid hr'; have HA := Lib.hid hA; have HL := Lib.hid hyl
  clear hr hA hr' hys hlen hyl
  go_enter Try.func7, Try.ntmps7
  go_wp2_with (at_builtin; go_loud (refine app_rd _ rfl _ _ rfl w.heap.size w.heap.size 0 0 [] rfl rfl (Own.empty w _ (Nat.le_refl _)) w.heap.size A n cap ys HL.out rfl ?c2 HA.out ?c3 ?c4 ?_))
  case c2 => exact HR.out.below ((Below.refl _ _).alloc (Nat.le_refl _) _)
  case c3 => omega
  case c4 => simp
  intro g c w1 ow hgr
  have b1 : Below w.heap.size w w1 := below_grown ((Below.refl _ _).alloc (Nat.le_refl _) _) hgr (Nat.le_refl _)
  have OW := Lib.hid ow
  clear ow hgr
  have cl := fun N A' c' w0 hr hN => close_any N A' n c' ys HL.out (by omega) w0 hr hN
  have CL := Lib.hid cl
  clear cl
  go_wp2_with fail
  refine (CL.out _ _ c w1 OW.out.reads (Nat.le_refl _) (fun h => by cases h)).mono ?_
  rintro e w2 ⟨g2, c2, rfl, ow2, b2⟩
  have OW1 := Lib.hid (OW.out.below b2)
  have B2 := bstep b1 b2
  have OC := Lib.hid ow2
  have lc : (ys ++ le4 (crc ys)).length = n + 4 := by rw [List.length_append, HL.out]; rfl
  have q1 : n ≤ c := by have := OW.out.cap.1; rw [HL.out] at this; exact this
  have q2 : n + 4 ≤ c2 := by have := OC.out.cap.1; rw [lc] at this; exact this
  have q3 := OC.out.cap.2
  have q4 := OW.out.cap.2
  unfold maxLen at q3 q4
  have g1lt : w.heap.size ≤ g := OW.out.lt.1
  have gne : g < w1.heap.size := OW.out.lt.2
  clear ow2 OW b1 b2 CL
  have rc : RdB w2 w2.heap.size (some ⟨g2, 0, none⟩) ys := by
    have := OC.out.reads.take n
    rw [List.take_append_of_le_length (by rw [HL.out]; exact Nat.le_refl _), List.take_of_length_le (by rw [HL.out]; exact Nat.le_refl _)] at this
    exact this
  have RC := Lib.hid rc; have LC := Lib.hid lc
  clear rc lc
  go_wp2_with fail
  refine (bsame_yes _ _ _ n c2 c ys w2 (by omega) HL.out RC.out OW1.out.reads (Nat.le_refl _)).mono ?_
  rintro e w3 ⟨rfl, b3⟩
  have OW2 := Lib.hid (OW1.out.below b3)
  have OC2 := Lib.hid (OC.out.below b3)
  have B3 := bstep B2 b3
  clear OW1 OC B2 b3 RC
  have gd := fun N A' c' w0 hr hN => good_any N A' (n + 4) c' (ys ++ le4 (crc ys)) LC.out (by omega) w0 hr hN
  rw [good_closed] at gd
  have GD := Lib.hid gd
  clear gd
  go_wp2_with fail
  refine (GD.out _ _ c2 w3 OC2.out.reads (Nat.le_refl _) OC2.out.cap.1).mono ?_
  rintro e w4 ⟨rfl, b4⟩
  have OW3 := Lib.hid (OW2.out.below b4)
  have B4 := bstep B3 b4
  clear OW2 OC2 B3 b4 GD LC q2 q3
  by_cases hn2 : n < 2
  · have d1 : decide ((n : Int) < 2) = true := by simp; omega
    go_wp2_with fail
    refine (runs_any _).mono ?_
    rintro e w5 ⟨rfl, b5⟩
    go_wp2
    go_ret
    exact ⟨rfl, bstep B4 b5⟩
  · have d1 : decide ((n : Int) < 2) = false := by simp; omega
    go_wp2_with fail
    refine (within_in t 0 ((n : Int) - 2) ht (by decide) (by omega) (by omega) (by omega) _).mono ?_
    rintro e w' ⟨y, rfl, y0, y1, rfl⟩
    obtain ⟨k, rfl⟩ := Int.eq_ofNat_of_zero_le y0
    have k2 : k + 2 ≤ n := by omega
    clear y0 y1
    go_wp2_with (at_builtin; go_loud (refine app_rd _ rfl _ _ rfl w4.heap.size w4.heap.size 0 0 [] rfl rfl (Own.empty w4 _ (Nat.le_refl _)) (w4.alloc (.cells #[] 5)).heap.size (some ⟨g, 0, none⟩) n c ys HL.out rfl ?c5 (fun h => by cases h) ?c6 ?c7 ?_))
    case c5 => exact (OW3.out.alloc _).reads
    case c6 => omega
    case c7 => simp
    intro gy cy w5 oy hgr
    have lt4 : g < w4.heap.size := OW3.out.lt.2
    have B5 : Below w.heap.size w w5 := below_grown (B4.alloc B4.size _) hgr B4.size
    have OW5 := Lib.hid ((OW3.out.alloc _).grown hgr (by omega))
    have gy0 : w4.heap.size ≤ gy := oy.lt.1
    have OY := Lib.hid oy
    have qy : n ≤ cy := by have := oy.cap.1; rw [HL.out] at this; exact this
    have qy' := oy.cap.2
    unfold maxLen at qy'
    have zy := oy.cell (k := k) (by rw [HL.out]; omega)
    have fy := oy.frozen k
    have vk : U8 (ys.getD k 0) := oy.2 k (by rw [HL.out]; omega)
    have vk1 : U8 (ys.getD (k + 1) 0) := oy.2 (k + 1) (by rw [HL.out]; omega)
    obtain ⟨va, hva⟩ : ∃ va, va = ys.getD k 0 := ⟨_, rfl⟩
    obtain ⟨vb, hvb⟩ : ∃ vb, vb = ys.getD (k + 1) 0 := ⟨_, rfl⟩
    rw [← hva] at zy vk
    rw [← hvb] at vk1
    have HVA := Lib.hid hva; have HVB := Lib.hid hvb
    have xk := xor_u8 va x
    clear oy hgr OW3 B4 hva hvb
    obtain ⟨vk0, vk0'⟩ := id vk
    obtain ⟨vk2, vk2'⟩ := id vk1
    obtain ⟨hx0, hx0'⟩ := id hx
    go_upto_region 10 with fail
    have OY6 := OY.out.set k (xorB va x) (xorB_U8 _ _)
    have OW6 := OW5.out.far (h := gy) (k := k) (by omega) (.int .u8 (xorB va x))
    have B6 := B5.setCell (p := ⟨gy, k, none⟩) (by have := B5.size; have : w.heap.size ≤ g := g1lt; show w.heap.size ≤ gy; omega) (.int .u8 (xorB va x))
    clear OY OW5 B5 zy fy xk
    generalize w5.setCell ⟨gy, k, none⟩ (.int .u8 (xorB va x)) = W6 at *
    have YL : (ys.set k (xorB va x)).length = n := by rw [List.length_set]; exact HL.out
    obtain ⟨Y, hY⟩ : ∃ Y, Y = ys.set k (xorB va x) := ⟨_, rfl⟩
    rw [← hY] at OY6 YL
    have HY := Lib.hid hY; have HYL := Lib.hid YL; have HOY := Lib.hid OY6; have HOW := Lib.hid OW6
    clear hY YL OY6 OW6
    go_wp2_with (at_builtin; go_loud (refine app_rd _ rfl _ _ rfl W6.heap.size W6.heap.size 0 0 [] rfl rfl (Own.empty W6 _ (Nat.le_refl _)) (W6.alloc (.cells #[] 5)).heap.size (some ⟨g, 0, none⟩) n c ys HL.out rfl ?c8 (fun h => by cases h) ?c9 ?c10 ?_))
    case c8 => exact (HOW.out.alloc _).reads
    case c9 => omega
    case c10 => simp
    intro gz cz w7 oz hgr
    have lt6 : g < W6.heap.size := HOW.out.lt.2
    have lt6' : gy < W6.heap.size := HOY.out.lt.2
    have B7 : Below w.heap.size w w7 := below_grown (B6.alloc B6.size _) hgr B6.size
    have OW7 := Lib.hid ((HOW.out.alloc _).grown hgr (by omega))
    have OY7 := Lib.hid ((HOY.out.alloc _).grown hgr (by omega))
    have gz0 : W6.heap.size ≤ gz := oz.lt.1
    have OZ := Lib.hid oz
    have qz : n ≤ cz := by have := oz.cap.1; rw [HL.out] at this; exact this
    have qz' := oz.cap.2
    unfold maxLen at qz'
    have z1 := oz.cell (k := k) (by rw [HL.out]; omega)
    have z2 := oz.cell (k := k + 1) (by rw [HL.out]; omega)
    have f1 := oz.frozen k
    have f2 := oz.frozen (k + 1)
    rw [← HVA.out] at z1
    rw [← HVB.out] at z2
    clear oz hgr HOW HOY B6
    have i1 : IntKind.i64.wrap ((k : Int) + 1) = (k : Int) + 1 := by rw [IntKind.wrap_i64]; omega
    have i2 : (0 : Int) ≤ (k : Int) + 1 := by omega
    have i3 : (k : Int) + 1 < (n : Int) := by omega
    have i4 : ((k : Int) + 1).toNat = k + 1 := by omega
    have i5 : (k : Int) < (n : Int) := by omega
    have gzw : w.heap.size ≤ gz := by omega
    go_upto_region 11 with fail
    go_cut [] (fun wd => Own wd W6.heap.size gz cz ((ys.set k vb).set (k + 1) va) ∧ Own wd w.heap.size g c ys ∧ Own wd w4.heap.size gy cy Y ∧ Below w.heap.size w wd)
    case first =>
      go_region
      all_goals
        go_wp2
        go_meet
        case rel => exact ⟨(OZ.out.drew.set k vb vk1).set (k + 1) va vk, (OW7.out.drew.far (by omega) _).far (by omega) _, (OY7.out.drew.far (by omega) _).far (by omega) _, (B7.drew.setCell gzw _).setCell gzw _⟩
    case rest =>
      obtain ⟨oz, ow, oy, bel⟩ := hcut
      clear i1 i2 i3 i4 i5 z1 z2 f1 f2 OZ OW7 OY7 B7
      have m1 := crc_set ys k x (by rw [HL.out]; omega) (by rw [← HVA.out]; exact vk) hx
      rw [← HVA.out, ← HY.out] at m1
      have m2 := crc_swap ys k (by rw [HL.out]; omega) (by rw [← HVA.out]; exact vk) (by rw [← HVB.out]; exact vk1)
      rw [← HVA.out, ← HVB.out] at m2
      obtain ⟨Z, hZ⟩ : ∃ Z, Z = (ys.set k vb).set (k + 1) va := ⟨_, rfl⟩
      have zl : Z.length = n := by rw [hZ, List.length_set, List.length_set]; exact HL.out
      rw [← hZ] at m2 oz
      clear hZ
      have s1 := fun N A' c' w0 hr hN => sum_any N A' n c' Y HYL.out (by unfold maxLen; omega) w0 hr hN
      have s2 := fun N A' c' w0 hr hN => sum_any N A' n c' ys HL.out (by unfold maxLen; omega) w0 hr hN
      have s3 := fun N A' c' w0 hr hN => sum_any N A' n c' Z zl (by unfold maxLen; omega) w0 hr hN
      have m1' : wrd (crc Y) = wrd (crc ys) ↔ x = 0 := ⟨fun h => m1.1 (u32_inj h), fun h => by rw [m1.2 h]⟩
      have m2' : wrd (crc Z) = wrd (crc ys) ↔ va = vb := ⟨fun h => m2.1 (u32_inj h), fun h => by rw [m2.2 h]⟩
      have c1 := ow.cell (k := k) (by rw [HL.out]; omega)
      have c2 := ow.cell (k := k + 1) (by rw [HL.out]; omega)
      rw [← HVA.out] at c1
      rw [← HVB.out] at c2
      have gl : g < wc.heap.size := ow.lt.2
      generalize wrd (crc Y) = SY at *
      generalize wrd (crc Z) = SZ at *
      generalize wrd (crc ys) = SO at *
      have S1 := Lib.hid s1; have S2 := Lib.hid s2; have S3 := Lib.hid s3
      have RY := Lib.hid oy; have RO := Lib.hid ow; have RZ := Lib.hid oz
      have M1 := Lib.hid m1'; have M2 := Lib.hid m2'
      clear s1 s2 s3 m1 m2 m1' m2' oy ow oz zl
      have key1 : (Hid (SY = SO) ∧ Hid (x = 0)) ∨ (Hid (¬ SY = SO) ∧ Hid (¬ x = 0)) := by
        by_cases h : x = 0
        · exact Or.inl ⟨Lib.hid (M1.out.2 h), Lib.hid h⟩
        · exact Or.inr ⟨Lib.hid (fun e => h (M1.out.1 e)), Lib.hid h⟩
      have key2 : (Hid (SZ = SO) ∧ Hid (va = vb)) ∨ (Hid (¬ SZ = SO) ∧ Hid (¬ va = vb)) := by
        by_cases h : va = vb
        · exact Or.inl ⟨Lib.hid (M2.out.2 h), Lib.hid h⟩
        · exact Or.inr ⟨Lib.hid (fun e => h (M2.out.1 e)), Lib.hid h⟩
      clear M1 M2
      have tests : ∃ e1 e2 e3 e4 : Bool, (SY == SO) = e1 ∧ (x == 0) = e1 ∧ (SZ == SO) = e3 ∧ (va == vb) = e3 := by
        rcases key1 with ⟨p1, p2⟩ | ⟨p1, p2⟩ <;> rcases key2 with ⟨p3, p4⟩ | ⟨p3, p4⟩
        · exact ⟨true, true, true, true, by simpa using p1.out, by simpa using p2.out, by simpa using p3.out, by simpa using p4.out⟩
        · exact ⟨true, true, false, true, by simpa using p1.out, by simpa using p2.out, by simpa using p3.out, by simpa using p4.out⟩
        · exact ⟨false, true, true, true, by simpa using p1.out, by simpa using p2.out, by simpa using p3.out, by simpa using p4.out⟩
        · exact ⟨false, true, false, true, by simpa using p1.out, by simpa using p2.out, by simpa using p3.out, by simpa using p4.out⟩
      clear key1 key2
      obtain ⟨e1, -, e3, -, t1, t2, t3, t4⟩ := tests
      have i1 : IntKind.i64.wrap ((k : Int) + 1) = (k : Int) + 1 := by rw [IntKind.wrap_i64]; omega
      have i2 : (0 : Int) ≤ (k : Int) + 1 := by omega
      have i3 : (k : Int) + 1 < (n : Int) := by omega
      have i4 : ((k : Int) + 1).toNat = k + 1 := by omega
      have i5 : (k : Int) < (n : Int) := by omega
      go_wp2_with fail
      go_region_held3 (fun w' => Below wc.heap.size wc w' ∧ w'.cell? ⟨g, k, none⟩ = some (.int .u8 va) ∧ w'.cell? ⟨g, k + 1, none⟩ = some (.int .u8 vb)) (first | exact keepO (by assumption) (by assumption) gl | exact ⟨(Below.refl _ _).drew, c1, c2⟩)
        (first
          | (go_at_call 9; obtain ⟨hq, _⟩ := ‹Below wc.heap.size wc _ ∧ _›; (first | (with_reducible refine (S1.out _ _ cy _ (RY.out.below hq).reads (Nat.le_refl _)).mono ?_) | (with_reducible refine (S2.out _ _ c _ (RO.out.below hq).reads (Nat.le_refl _)).mono ?_) | (with_reducible refine (S3.out _ _ cz _ (RZ.out.below hq).reads (Nat.le_refl _)).mono ?_)); rintro e w' ⟨rfl, hbb⟩)
          | (go_at_call 3; (with_reducible refine (runs_any _).mono ?_); rintro e w' ⟨rfl, hbb⟩))
      obtain ⟨bW, -, -⟩ := ‹Below wc.heap.size wc _ ∧ _›
      go_wp2
      go_ret
      exact ⟨rfl, bstep bel bW⟩
end Go.Proofs.Ytikfjaimhmgajaa
