/-
  The walk of the statement LeafTells: for every leaf, bytes, place and byte the call returns true; nothing that was in memory turns.
-/
import Derived.Test.YtkmlajlnpfoepaaFRuns
import Derived.Test.YtkmlajlnpfoepaaLRd
import Derived.Test.YtkmlajlnpfoepaaBBytes
import Derived.Test.YtkmlajlnpfoepaaBWithinI
import Derived.Lib.MinMax
namespace Go.Proofs.Ytkmlajlnpfoepaa
set_option linter.unusedVariables false
set_option linter.unusedSimpArgs false
open Go.RowKit

/-- A new leaf's variable takes a leaf: all that lay there stays. -/
theorem below_new {w w1 w2 : World} {m : Nat} (hm : m = w.heap.size) (b : Below w.heap.size w w1) (k : Keep (· = m) w1 w2) : Below w.heap.size w w2 :=
  k.below (fun q hq => by omega) b b.size
attribute [local go_sem ↓] loadLf_eq eqlLf_eq
set_option maxRecDepth 100000 in
set_option maxHeartbeats 8000000 in
theorem ltells_any (L : Lf) (hL : L.Ok) (A : Option Addr) (len cap : Nat) (xs : List Int) (at_ x : Int) (w : World) (hlen : xs.length = len) (hr : RdB w w.heap.size A xs) (h1 : len ≤ cap) (h2 : cap ≤ maxLen) (hA : A = none → cap = 0) (hat : I64 at_) (hx : U8 x) :
    Calls Try.prog 4 #[.agg (lv L).toArray, .slice A len cap, .int .i64 at_, .int .u8 x] w fun e w' => e = .returned (.bool true) ∧ Below w.heap.size w w' := by
  unfold maxLen at h2
  obtain ⟨n, hn⟩ : ∃ n : Nat, n = min len 140 := ⟨_, rfl⟩
  have e1 : min (len : Int) 140 = (n : Int) := by omega
  have n1 : n ≤ 140 := by omega
  have n2 : n ≤ len := by omega
  have n3 : n ≤ cap := by omega
  clear hn
  have hr' := hr.take n
  obtain ⟨ys, hys⟩ : ∃ ys, ys = xs.take n := ⟨_, rfl⟩
  have hyl : ys.length = n := by rw [hys, List.length_take]; omega
  rw [← hys] at hr'
  have HR := Lib.hid hr'; have HA := Lib.hid hA; have HL := Lib.hid hyl; have OK := Lib.hid hL; have HAT := Lib.hid hat; have HX := Lib.hid hx
  clear hr hA hr' hys hlen hyl hL hat hx
  go_enter Try.func4, Try.ntmps4
  go_wp2_with (with_reducible refine box_leaf rfl _ rfl L OK.out rfl ?_)
  intro w1 l1 b1 s1
  obtain ⟨b, hb⟩ : ∃ b, b = w.heap.size := ⟨_, rfl⟩
  rw [← hb] at l1 ⊢
  have L1 := Lib.hid l1; have B1 := Lib.hid b1
  have RD1 := Lib.hid (HR.out.below b1)
  have hN1 : w.heap.size ≤ w1.heap.size := b1.size
  clear hb b1 s1 l1
  have ld := loadLf_run L1.out
  cases ht : L.rt
  · have RT := Lib.hid ht
    clear ht
    go_wp2_with fail
    clear ld
    refine (put_no L OK.out RT.out w1).mono ?_
    rintro e w2 ⟨rfl, b2⟩
    have L2 := Lib.hid (L1.out.below b2)
    have B2 := Lib.hid (bstep B1.out b2)
    have RD2 := Lib.hid (RD1.out.below (b2.mono hN1))
    have hN2 : w.heap.size ≤ w2.heap.size := B2.out.size
    clear b2 L1 B1 RD1
    go_wp2_with (at_builtin; go_loud (refine app_rd _ rfl _ _ rfl w2.heap.size w2.heap.size 0 0 [] rfl rfl (Own.empty w2 _ (Nat.le_refl _)) w.heap.size A n cap ys HL.out rfl ?c2 HA.out ?c3 ?c4 ?_))
    case c2 => exact RD2.out.below ((Below.refl _ _).alloc hN2 _)
    case c3 => omega
    case c4 => simp
    intro go co w4 oo hgr
    have b4 : Below w2.heap.size w2 w4 := below_grown ((Below.refl _ _).alloc (Nat.le_refl _) _) hgr (Nat.le_refl _)
    have OO := Lib.hid oo
    have L4 := Lib.hid (L2.out.below b4)
    have B4 := Lib.hid (bstep B2.out b4)
    clear oo hgr b4 L2 B2 RD2
    obtain ⟨O, hO⟩ : ∃ O, O = ys := ⟨_, rfl⟩
    have OL : Hid (O.length = n) := Lib.hid (by rw [hO]; exact HL.out)
    rw [← hO] at OO
    clear hO
    go_wp2_with fail
    refine (roomy_any w4.heap.size (some ⟨go, 0, none⟩) n co O 7 w4 (by omega) OL.out OO.out.reads (Nat.le_refl _) ⟨by decide, by decide⟩).mono ?_
    rintro e v1 ⟨gf, rfl, of1, b1⟩
    have F1 := Lib.hid of1
    have O1 := Lib.hid (OO.out.below b1)
    have L1 := Lib.hid (L4.out.below b1)
    have B1 := Lib.hid (bstep B4.out b1)
    have R1 : Hid (RdB v1 v1.heap.size (some ⟨gf, 0, none⟩) O) := Lib.hid (by
      have := F1.out.reads.take n
      rw [roomy_take O 7 n OL.out] at this
      exact this)
    clear of1 b1 OO L4 B4
    obtain ⟨G, hG⟩ : ∃ G, G = gotL O := ⟨_, rfl⟩
    obtain ⟨q, hq⟩ : ∃ q, q = gotB O := ⟨_, rfl⟩
    have GO : Hid G.Ok := Lib.hid (by rw [hG]; exact got_ok O1.out.2)
    have GE := Lib.hid hG; have QE := Lib.hid hq
    have cO : n ≤ co := by have := O1.out.cap.1; rw [OL.out] at this; exact this
    clear hG hq
    have GT := Lib.hid (get_any v1.heap.size (some ⟨gf, 0, none⟩) n (n + 80) O OL.out (by omega) v1 R1.out (Nat.le_refl _) (by omega))
    unfold GetL at GT
    rw [← GE.out, ← QE.out] at GT
    go_wp2_with fail
    refine GT.out.mono ?_
    rintro e v2 ⟨rfl, b2⟩
    have F2 := Lib.hid (F1.out.below b2)
    have O2 := Lib.hid (O1.out.below b2)
    have L2 := Lib.hid (L1.out.below b2)
    have B2 := Lib.hid (bstep B1.out b2)
    clear b2 F1 O1 L1 B1 R1 GT
    go_wp2_with (with_reducible refine alloc_leaf rfl rfl ?_)
    intro v3 l3 b3 s3
    obtain ⟨m, hm⟩ : ∃ m, m = v2.heap.size := ⟨_, rfl⟩
    rw [← hm] at l3 ⊢
    have L3 := Lib.hid l3; have B3 := Lib.hid b3; have HM := Lib.hid hm
    clear hm l3 b3 s3
    go_wp2_with (with_reducible refine store_leaf rfl _ _ rfl m Lf.zero G L3.out GO.out rfl rfl ?_)
    intro v4 l4 k4 s4
    have b4 := below_new HM.out B3.out k4
    have M4 := Lib.hid l4
    have F4 := Lib.hid (F2.out.below b4)
    have O4 := Lib.hid (O2.out.below b4)
    have L4 := Lib.hid (L2.out.below b4)
    have B4 := Lib.hid (bstep B2.out b4)
    clear b4 l4 k4 s4 L3 B3 F2 O2 L2 B2 HM
    have GT := Lib.hid (rget_any v4.heap.size (some ⟨go, 0, none⟩) n co O OL.out (by omega) v4 O4.out.reads (Nat.le_refl _) cO)
    unfold GetL at GT
    rw [← GE.out, ← QE.out] at GT
    go_wp2_with fail
    refine GT.out.mono ?_
    rintro e v5 ⟨rfl, b5⟩
    have M5 := Lib.hid (M4.out.below b5)
    have F5 := Lib.hid (F4.out.below b5)
    have O5 := Lib.hid (O4.out.below b5)
    have L5 := Lib.hid (L4.out.below b5)
    have B5 := Lib.hid (bstep B4.out b5)
    clear b5 M4 F4 O4 L4 B4 GT
    go_wp2_with (with_reducible refine alloc_leaf rfl rfl ?_)
    intro v6 l6 b6 s6
    obtain ⟨mm, hm⟩ : ∃ m, m = v5.heap.size := ⟨_, rfl⟩
    rw [← hm] at l6 ⊢
    have L6 := Lib.hid l6; have B6 := Lib.hid b6; have HM := Lib.hid hm
    clear hm l6 b6 s6
    go_wp2_with (with_reducible refine store_leaf rfl _ _ rfl mm Lf.zero G L6.out GO.out rfl rfl ?_)
    intro v7 l7 k7 s7
    have b7 := below_new HM.out B6.out k7
    have N7 := Lib.hid l7
    have M7 := Lib.hid (M5.out.below b7)
    have F7 := Lib.hid (F5.out.below b7)
    have O7 := Lib.hid (O5.out.below b7)
    have L7 := Lib.hid (L5.out.below b7)
    have B7 := Lib.hid (bstep B5.out b7)
    clear b7 l7 k7 s7 L6 B6 M5 F5 O5 L5 B5 HM
    have eq1 := eqlLf_run GO.out GO.out
    rw [decide_eq_true (rfl : G = G)] at eq1
    have eg := lf_guard
    have KS : Hid (∀ w', Below v7.heap.size v7 w' → (loadLf (.pointer (some ⟨b, 0, none⟩))).run Try.prog w' = .ok (.agg (lv L).toArray) w' ∧ (loadLf (.pointer (some ⟨m, 0, none⟩))).run Try.prog w' = .ok (.agg (lv G).toArray) w' ∧ (loadLf (.pointer (some ⟨mm, 0, none⟩))).run Try.prog w' = .ok (.agg (lv G).toArray) w') := Lib.hid (fun w' hb => ⟨loadLf_run (L7.out.below hb), loadLf_run (M7.out.below hb), loadLf_run (N7.out.below hb)⟩)
    have IN : Hid (∀ W, Below v7.heap.size v7 W → Calls Try.prog 16 #[.slice (some ⟨gf, 0, none⟩) (n + 80) (n + 80), .slice (some ⟨go, 0, none⟩) n co, .int .u8 7] W fun e w' => e = .returned (.bool true) ∧ Below W.heap.size W w') := Lib.hid (fun W hb => intact_yes W.heap.size (some ⟨gf, 0, none⟩) (some ⟨go, 0, none⟩) n (n + 80) co O 7 W (by omega) OL.out (F7.out.below hb).reads (O7.out.below hb).reads (Nat.le_refl _) ⟨by decide, by decide⟩ (Nat.le_refl _) (by unfold maxLen; omega))
    have RA := Lib.hid (fun w0 => right_any L OK.out w0)
    have RB := Lib.hid (fun w0 => rright_any L OK.out w0)
    have RC := Lib.hid (fun w0 => rput_no L OK.out RT.out w0)
    have SE := Lib.hid (fun w0 => bsame_yes 0 none none 0 0 0 [] w0 (by decide) rfl (fun k hk => absurd hk (by simp)) (fun k hk => absurd hk (by simp)) (Nat.zero_le _))
    rw [RT.out] at RA RB
    go_wp2_with fail
    go_region_held_law (fun w' => (loadLf (.pointer (some ⟨b, 0, none⟩))).run Try.prog w' = .ok (.agg (lv L).toArray) w' ∧ (loadLf (.pointer (some ⟨m, 0, none⟩))).run Try.prog w' = .ok (.agg (lv G).toArray) w' ∧ (loadLf (.pointer (some ⟨mm, 0, none⟩))).run Try.prog w' = .ok (.agg (lv G).toArray) w') ((refine KS.out _ ?_; first | exact BF.out | exact BE.out | exact BD.out | exact BC.out | exact BB.out | exact BA.out | exact (Below.refl _ _).drew | exact Below.refl _ _))
      (first
        | (go_at_call 13; (with_reducible refine (RA.out _).mono ?_); rintro e wa ⟨rfl, ba⟩; have BA : Hid (Below v7.heap.size v7 wa) := Lib.hid ((Below.refl _ _).drew.trans ba); clear ba)
        | (go_at_call 14; (with_reducible refine (RB.out _).mono ?_); rintro e wb ⟨rfl, bb⟩; have BB : Hid (Below v7.heap.size v7 wb) := Lib.hid (bstep BA.out bb); clear bb)
        | (go_at_call 15; (with_reducible refine (RC.out _).mono ?_); rintro e wq ⟨rfl, bq⟩; have BC : Hid (Below v7.heap.size v7 wq) := Lib.hid (bstep BB.out bq); clear bq)
        | (go_at_call 9; (with_reducible refine (SE.out wq).mono ?_); rintro e wd ⟨rfl, bd⟩; have BD : Hid (Below v7.heap.size v7 wd) := Lib.hid (bstep BC.out bd); clear bd)
        | (go_at_call 16; (with_reducible refine (IN.out wd BD.out).mono ?_); rintro e we ⟨rfl, be⟩; have BE : Hid (Below v7.heap.size v7 we) := Lib.hid (bstep BD.out be); clear be)
        | (go_at_call 3; (with_reducible refine (lruns_any _).mono ?_); rintro e wf ⟨rfl, bf⟩; have BF : Hid (Below v7.heap.size v7 wf) := Lib.hid (bstep BE.out bf); clear bf))
    all_goals
      go_wp2
      go_ret
      exact ⟨rfl, bstep B7.out BF.out⟩
  · have RT := Lib.hid ht
    have RG := Lib.hid ((Lf.rt_iff OK.out).1 ht)
    clear ht
    go_wp2_with fail
    clear ld
    refine (put_yes L OK.out RT.out w1).mono ?_
    rintro e w2 ⟨gp, cp, rfl, op, b2⟩
    have P2 := Lib.hid op
    have L2 := Lib.hid (L1.out.below b2)
    have B2 := Lib.hid (bstep B1.out b2)
    have RD2 := Lib.hid (RD1.out.below (b2.mono hN1))
    have hN2 : w.heap.size ≤ w2.heap.size := B2.out.size
    clear b2 op L1 B1 RD1
    go_wp2_with (at_builtin; go_loud (refine app_rd _ rfl _ _ rfl w2.heap.size w2.heap.size 0 0 [] rfl rfl (Own.empty w2 _ (Nat.le_refl _)) w.heap.size A n cap ys HL.out rfl ?c5 HA.out ?c6 ?c7 ?_))
    case c5 => exact RD2.out.below ((Below.refl _ _).alloc hN2 _)
    case c6 => omega
    case c7 => simp
    intro g0 c0 w3 o0 hgr
    have b3 : Below w2.heap.size w2 w3 := below_grown ((Below.refl _ _).alloc (Nat.le_refl _) _) hgr (Nat.le_refl _)
    have P3 := Lib.hid (P2.out.below b3)
    have L3 := Lib.hid (L2.out.below b3)
    have B3 := Lib.hid (bstep B2.out b3)
    have PL : Hid (L.put.length = 128) := Lib.hid (Lf.put_len OK.out)
    clear o0 hgr b3 P2 L2 B2 RD2
    go_wp2_with (at_builtin; go_loud (refine app_rd _ rfl _ _ rfl w3.heap.size w3.heap.size 0 0 [] rfl rfl (Own.empty w3 _ (Nat.le_refl _)) w3.heap.size (some ⟨gp, 0, none⟩) 128 cp L.put PL.out rfl ?c8 (fun h => by cases h) ?c9 ?c10 ?_))
    case c8 => exact P3.out.reads.below ((Below.refl _ _).alloc (Nat.le_refl _) _)
    case c9 => decide
    case c10 => simp
    intro go co w4 oo hgr
    have b4 : Below w3.heap.size w3 w4 := below_grown ((Below.refl _ _).alloc (Nat.le_refl _) _) hgr (Nat.le_refl _)
    have OO := Lib.hid oo
    have P4 := Lib.hid (P3.out.below b4)
    have L4 := Lib.hid (L3.out.below b4)
    have B4 := Lib.hid (bstep B3.out b4)
    have hgo : gp < go := by have := P3.out.lt.2; have := oo.lt.1; omega
    have hgb : b < go := by have := L3.out.lt; have := oo.lt.1; omega
    have hgw : w.heap.size ≤ go := by have := B3.out.size; have := oo.lt.1; omega
    clear oo hgr b4 P3 L3 B3
    go_wp2_with fail
    refine (within_in at_ 0 127 HAT.out (by decide) (by decide) (by decide) (by decide) w4).mono ?_
    rintro e w' ⟨t, rfl, t0, t1, rfl⟩
    obtain ⟨t, rfl⟩ : ∃ q : Nat, t = q := ⟨t.toNat, by omega⟩
    have cy := OO.out.cell (k := t) (by rw [PL.out]; omega)
    have fz := OO.out.frozen t
    obtain ⟨z, hz⟩ : ∃ z, bits .xor .u8 (L.put.getD t 0) x = z := ⟨_, rfl⟩
    have UZ : Hid (U8 z) := Lib.hid (by rw [← hz, xor_u8]; exact xorB_U8 _ _)
    have i1 : (t : Int) < 128 := by omega
    have i2 : t < 128 := by omega
    obtain ⟨u0, u1⟩ := OO.out.2 t (by rw [PL.out]; exact i2)
    obtain ⟨x0, x1⟩ := HX.out
    have O5 : Hid (Own (w4.setCell ⟨go, t, none⟩ (.int .u8 z)) w3.heap.size go co (L.put.set t z)) := Lib.hid (OO.out.set t z UZ.out)
    have P5 : Hid (Own (w4.setCell ⟨go, t, none⟩ (.int .u8 z)) w1.heap.size gp cp L.put) := Lib.hid (P4.out.far (by omega) _)
    have L5 : Hid (LfAt (w4.setCell ⟨go, t, none⟩ (.int .u8 z)) b L) := Lib.hid (L4.out.far (by omega) _)
    have B5 : Hid (Below w.heap.size w (w4.setCell ⟨go, t, none⟩ (.int .u8 z))) := Lib.hid (B4.out.setCell (p := ⟨go, t, none⟩) hgw _)
    generalize L.put.getD t 0 = v at *
    go_upto_region 6 with fail
    obtain ⟨w5, hw5⟩ : ∃ w5, w5 = w4.setCell ⟨go, t, none⟩ (.int .u8 z) := ⟨_, rfl⟩
    rw [← hw5] at O5 P5 L5 B5
    rw [← hw5]
    clear hw5 OO P4 L4 B4 cy fz hz u0 u1 x0 x1
    obtain ⟨O, hO⟩ : ∃ O, O = L.put.set t z := ⟨_, rfl⟩
    have OL : Hid (O.length = 128) := Lib.hid (by rw [hO, List.length_set]; exact PL.out)
    rw [← hO] at O5
    clear hO
    go_wp2_with fail
    refine (roomy_any w5.heap.size (some ⟨go, 0, none⟩) 128 co O 7 w5 (by omega) OL.out O5.out.reads (Nat.le_refl _) ⟨by decide, by decide⟩).mono ?_
    rintro e v1 ⟨gf, rfl, of1, b1⟩
    have F1 := Lib.hid of1
    have O1 := Lib.hid (O5.out.below b1)
    have L1 := Lib.hid (L5.out.below b1)
    have B1 := Lib.hid (bstep B5.out b1)
    have P1 := Lib.hid (P5.out.below b1)
    have R1 : Hid (RdB v1 v1.heap.size (some ⟨gf, 0, none⟩) O) := Lib.hid (by
      have := F1.out.reads.take 128
      rw [roomy_take O 7 128 OL.out] at this
      exact this)
    clear of1 b1 O5 L5 B5 P5
    obtain ⟨G, hG⟩ : ∃ G, G = gotL O := ⟨_, rfl⟩
    obtain ⟨q, hq⟩ : ∃ q, q = gotB O := ⟨_, rfl⟩
    have GO : Hid G.Ok := Lib.hid (by rw [hG]; exact got_ok O1.out.2)
    have GE := Lib.hid hG; have QE := Lib.hid hq
    have cO : 128 ≤ co := by have := O1.out.cap.1; rw [OL.out] at this; exact this
    clear hG hq
    have GT := Lib.hid (get_any v1.heap.size (some ⟨gf, 0, none⟩) 128 (128 + 80) O OL.out (by omega) v1 R1.out (Nat.le_refl _) (by omega))
    unfold GetL at GT
    rw [← GE.out, ← QE.out] at GT
    go_wp2_with fail
    refine GT.out.mono ?_
    rintro e v2 ⟨rfl, b2⟩
    have F2 := Lib.hid (F1.out.below b2)
    have O2 := Lib.hid (O1.out.below b2)
    have L2 := Lib.hid (L1.out.below b2)
    have B2 := Lib.hid (bstep B1.out b2)
    have P2 := Lib.hid (P1.out.below b2)
    clear b2 F1 O1 L1 B1 R1 GT
    go_wp2_with (with_reducible refine alloc_leaf rfl rfl ?_)
    intro v3 l3 b3 s3
    obtain ⟨m, hm⟩ : ∃ m, m = v2.heap.size := ⟨_, rfl⟩
    rw [← hm] at l3 ⊢
    have L3 := Lib.hid l3; have B3 := Lib.hid b3; have HM := Lib.hid hm
    clear hm l3 b3 s3
    go_wp2_with (with_reducible refine store_leaf rfl _ _ rfl m Lf.zero G L3.out GO.out rfl rfl ?_)
    intro v4 l4 k4 s4
    have b4 := below_new HM.out B3.out k4
    have M4 := Lib.hid l4
    have F4 := Lib.hid (F2.out.below b4)
    have O4 := Lib.hid (O2.out.below b4)
    have L4 := Lib.hid (L2.out.below b4)
    have B4 := Lib.hid (bstep B2.out b4)
    have P4 := Lib.hid (P2.out.below b4)
    clear b4 l4 k4 s4 L3 B3 F2 O2 L2 B2 HM
    have GT := Lib.hid (rget_any v4.heap.size (some ⟨go, 0, none⟩) 128 co O OL.out (by omega) v4 O4.out.reads (Nat.le_refl _) cO)
    unfold GetL at GT
    rw [← GE.out, ← QE.out] at GT
    go_wp2_with fail
    refine GT.out.mono ?_
    rintro e v5 ⟨rfl, b5⟩
    have M5 := Lib.hid (M4.out.below b5)
    have F5 := Lib.hid (F4.out.below b5)
    have O5 := Lib.hid (O4.out.below b5)
    have L5 := Lib.hid (L4.out.below b5)
    have B5 := Lib.hid (bstep B4.out b5)
    have P5 := Lib.hid (P4.out.below b5)
    clear b5 M4 F4 O4 L4 B4 GT
    go_wp2_with (with_reducible refine alloc_leaf rfl rfl ?_)
    intro v6 l6 b6 s6
    obtain ⟨mm, hm⟩ : ∃ m, m = v5.heap.size := ⟨_, rfl⟩
    rw [← hm] at l6 ⊢
    have L6 := Lib.hid l6; have B6 := Lib.hid b6; have HM := Lib.hid hm
    clear hm l6 b6 s6
    go_wp2_with (with_reducible refine store_leaf rfl _ _ rfl mm Lf.zero G L6.out GO.out rfl rfl ?_)
    intro v7 l7 k7 s7
    have b7 := below_new HM.out B6.out k7
    have N7 := Lib.hid l7
    have M7 := Lib.hid (M5.out.below b7)
    have F7 := Lib.hid (F5.out.below b7)
    have O7 := Lib.hid (O5.out.below b7)
    have L7 := Lib.hid (L5.out.below b7)
    have B7 := Lib.hid (bstep B5.out b7)
    have P7 := Lib.hid (P5.out.below b7)
    clear b7 l7 k7 s7 L6 B6 M5 F5 O5 L5 B5 HM
    have eq1 := eqlLf_run GO.out GO.out
    rw [decide_eq_true (rfl : G = G)] at eq1
    have eg := lf_guard
    have KS : Hid (∀ w', Below v7.heap.size v7 w' → (loadLf (.pointer (some ⟨b, 0, none⟩))).run Try.prog w' = .ok (.agg (lv L).toArray) w' ∧ (loadLf (.pointer (some ⟨m, 0, none⟩))).run Try.prog w' = .ok (.agg (lv G).toArray) w' ∧ (loadLf (.pointer (some ⟨mm, 0, none⟩))).run Try.prog w' = .ok (.agg (lv G).toArray) w') := Lib.hid (fun w' hb => ⟨loadLf_run (L7.out.below hb), loadLf_run (M7.out.below hb), loadLf_run (N7.out.below hb)⟩)
    have IN : Hid (∀ W, Below v7.heap.size v7 W → Calls Try.prog 16 #[.slice (some ⟨gf, 0, none⟩) 208 208, .slice (some ⟨go, 0, none⟩) 128 co, .int .u8 7] W fun e w' => e = .returned (.bool true) ∧ Below W.heap.size W w') := Lib.hid (fun W hb => intact_yes W.heap.size (some ⟨gf, 0, none⟩) (some ⟨go, 0, none⟩) 128 (128 + 80) co O 7 W (by omega) OL.out (F7.out.below hb).reads (O7.out.below hb).reads (Nat.le_refl _) ⟨by decide, by decide⟩ (Nat.le_refl _) (by unfold maxLen; omega))
    have RA := Lib.hid (fun w0 => right_any L OK.out w0)
    have RB := Lib.hid (fun w0 => rright_any L OK.out w0)
    have RC := Lib.hid (fun w0 => rput_yes L OK.out RT.out w0)
    rw [RT.out] at RA RB
    go_wp2_with fail
    go_region_held_law (fun w' => (loadLf (.pointer (some ⟨b, 0, none⟩))).run Try.prog w' = .ok (.agg (lv L).toArray) w' ∧ (loadLf (.pointer (some ⟨m, 0, none⟩))).run Try.prog w' = .ok (.agg (lv G).toArray) w' ∧ (loadLf (.pointer (some ⟨mm, 0, none⟩))).run Try.prog w' = .ok (.agg (lv G).toArray) w') ((refine KS.out _ ?_; first | exact BF.out | exact BE.out | exact BD.out | exact BC.out | exact BB.out | exact BA.out | exact (Below.refl _ _).drew | exact Below.refl _ _))
      (first
        | (go_at_call 13; (with_reducible refine (RA.out _).mono ?_); rintro e wa ⟨rfl, ba⟩; have BA : Hid (Below v7.heap.size v7 wa) := Lib.hid ((Below.refl _ _).drew.trans ba); clear ba)
        | (go_at_call 14; (with_reducible refine (RB.out _).mono ?_); rintro e wb ⟨rfl, bb⟩; have BB : Hid (Below v7.heap.size v7 wb) := Lib.hid (bstep BA.out bb); clear bb)
        | (go_at_call 15; (with_reducible refine (RC.out _).mono ?_); rintro e wq ⟨gq, cq, rfl, oq, bq⟩; have OQ := Lib.hid oq; have BC : Hid (Below v7.heap.size v7 wq) := Lib.hid (bstep BB.out bq); clear oq bq)
        | (go_at_call 9; (with_reducible refine (bsame_yes wq.heap.size (some ⟨gp, 0, none⟩) (some ⟨gq, 0, none⟩) 128 cp cq L.put wq (by decide) PL.out (P7.out.below BC.out).reads OQ.out.reads (Nat.le_refl _)).mono ?_); rintro e wd ⟨rfl, bd⟩; have BD : Hid (Below v7.heap.size v7 wd) := Lib.hid (bstep BC.out bd); clear bd)
        | (go_at_call 16; (with_reducible refine (IN.out wd BD.out).mono ?_); rintro e we ⟨rfl, be⟩; have BE : Hid (Below v7.heap.size v7 we) := Lib.hid (bstep BD.out be); clear be)
        | (go_at_call 3; (with_reducible refine (lruns_any _).mono ?_); rintro e wf ⟨rfl, bf⟩; have BF : Hid (Below v7.heap.size v7 wf) := Lib.hid (bstep BE.out bf); clear bf))
    all_goals
      go_wp2
      go_ret
      exact ⟨rfl, bstep B7.out BF.out⟩
end Go.Proofs.Ytkmlajlnpfoepaa
