/-
  The contract of package catalog's Put: of a right catalog its leaf, of another one zero; nothing that was in memory turns.
-/
import Derived.Test.YtilmicekpclmbaaZv
import Derived.Test.YtilmicekpclmbaaZA
import Derived.Deep.DeepCutAuto
namespace Go.Proofs.Ytilmicekpclmbaa
set_option linter.unusedVariables false
set_option linter.unusedSimpArgs false
set_option maxRecDepth 100000
open Go.RowKit

theorem pad_nought (pre : List Int) (h : pre.length < 116) : pad (pre ++ [0]) = pad pre := by
  unfold pad
  obtain ⟨m, hm⟩ : ∃ m, 116 - pre.length = m + 1 := ⟨115 - pre.length, by omega⟩
  have e : 116 - (pre ++ [0]).length = m := by rw [List.length_append]; show 116 - (pre.length + 1) = m; omega
  rw [hm, e, List.append_assoc]
  rfl
theorem PreAt.keep {w w' : World} {b : Nat} {sz : Int} {pre : List Int} {F : Nat → Prop} (h : PreAt w b sz pre) (k : Keep F w w') (hn : ¬ F b) : PreAt w' b sz pre := LfAt.same h (k.block b (LfAt.lt h) hn)
theorem CtAt.keep {w w' : World} {b : Nat} {c : Ct} {A : Option Addr} {n cap : Nat} {F : Nat → Prop} (h : CtAt w b c A n cap) (k : Keep F w w') (hn : ¬ F b) : CtAt w' b c A n cap := Arr.same h (k.block b h.lt hn)
theorem LfAt.keep {w w' : World} {b : Nat} {L : Lf} {F : Nat → Prop} (h : LfAt w b L) (k : Keep F w w') (hn : ¬ F b) : LfAt w' b L := h.same (k.block b h.lt hn)
theorem FlR.keep {w w' : World} {N : Nat} {A : Option Addr} {l : List Fl} {F : Nat → Prop} (h : FlR w N A l) (k : Keep F w w') (hN : N ≤ w.heap.size) (hF : ∀ q, F q → N ≤ q) : FlR w' N A l := fun i hi => by
  obtain ⟨b, o, h1, h2, h3, h4, h5, h6, h7⟩ := h i hi
  have nf : ¬ F b := fun e => by have := hF b e; omega
  have lt : b < w.heap.size := by omega
  exact ⟨b, o, h1, h2, by rw [k.cellK (a := ⟨b, o + i * 4, none⟩) lt nf]; exact h3, by rw [k.cellK (a := ⟨b, o + i * 4 + 1, none⟩) lt nf]; exact h4, by rw [k.cellK (a := ⟨b, o + i * 4 + 2, none⟩) lt nf]; exact h5, by rw [k.cellK (a := ⟨b, o + i * 4 + 3, none⟩) lt nf]; exact h6, h7⟩
theorem sz_wrap (n : Nat) (h : n ≤ 14) : IntKind.i64.wrap (17 + 7 * (n : Int)) = 17 + 7 * (n : Int) := IntWalk.i64_in _ (by omega)
/-- The head of a catalog, piece by piece. -/
theorem head_of (c : Ct) : by4 c.gen ++ [c.step] ++ [c.status] ++ [bit01 c.ended] ++ [c.card.budget] ++ [c.card.fan] ++ by4 c.card.frm ++ by4 c.card.to_ = c.head := rfl
set_option maxHeartbeats 8000000 in
theorem put_cat (c : Ct) (ok : c.Ok) (N : Nat) (A : Option Addr) (n cap : Nat) (w : World) (hl : c.files.length = n) (hm : n ≤ maxLen) (hr : FlR w N A c.files) (hN : N ≤ w.heap.size) :
    Calls Try.prog 49 #[.agg (ctv c A n cap).toArray] w (PutC w c) := by
  have HL := Lib.hid hl; have HR := Lib.hid hr; have OK := Lib.hid ok; have HM := Lib.hid hm
  clear hl hr ok hm
  go_enter Try.func49, Try.ntmps49
  go_wp2_with (with_reducible refine box_ct rfl _ rfl c A n cap rfl ?_)
  intro w1 l1 b1 s1
  obtain ⟨b, hb⟩ : ∃ b, b = w.heap.size := ⟨_, rfl⟩
  rw [← hb] at l1 ⊢
  have L1 := Lib.hid l1; have B1 := Lib.hid b1
  have R1 := Lib.hid (HR.out.below (b1.mono hN))
  have hN1 : N ≤ w1.heap.size := by have := b1.size; omega
  have hNb : N ≤ b := by omega
  clear hb b1 s1 l1
  go_wp2_with (with_reducible refine alloc_leaf rfl rfl ?_)
  intro w2 l2 b2 s2
  obtain ⟨r, hr⟩ : ∃ r, r = w1.heap.size := ⟨_, rfl⟩
  rw [← hr] at l2 ⊢
  have Z2 := Lib.hid l2
  have L2 := Lib.hid (L1.out.below b2)
  have R2 := Lib.hid (R1.out.below (b2.mono hN1))
  have B2 := Lib.hid (bstep B1.out b2)
  have hN2 : N ≤ w2.heap.size := by have := b2.size; omega
  have hrw : w.heap.size ≤ r := by have := B1.out.size; omega
  have hbr : b < r := by rw [hr]; exact L1.out.lt
  clear hr b2 s2 l2 L1 B1 R1 hN1
  go_wp2_with (with_reducible refine load_ct rfl _ rfl b c A n cap L2.out rfl ?_)
  refine (cat_any c OK.out N A n cap w2 HL.out HM.out R2.out hN2).mono ?_
  rintro e w3 ⟨rfl, b3⟩
  have Z3 := Lib.hid (Z2.out.below b3)
  have L3 := Lib.hid (L2.out.below b3)
  have R3 := Lib.hid (R2.out.below (b3.mono hN2))
  have B3 := Lib.hid (bstep B2.out b3)
  have hN3 : N ≤ w3.heap.size := by have := b3.size; omega
  clear b3 Z2 L2 R2 B2 hN2
  cases ht : c.rt
  · have PE := Lib.hid (Ct.putL_no (Ct.rt_no.1 ht))
    clear ht
    go_wp2_with (first | (with_reducible refine build_zero rfl rfl ?_) | (with_reducible refine store_leaf rfl _ _ rfl r Lf.zero Lf.zero Z3.out Lf.zero_ok rfl rfl ?_))
    intro w4 l4 k4 s4
    have L4 := Lib.hid l4
    have B4 := Lib.hid (k4.below (fun k hk => by omega) B3.out B3.out.size)
    clear l4 k4 s4
    go_wp2
    refine ret_one 2 rfl rfl L4.out rfl ⟨?_, B4.out⟩
    rw [PE.out]
  · have RG := Lib.hid (Ct.rt_iff.1 ht)
    have PE := Lib.hid (Ct.putL_yes RG.out)
    clear ht
    obtain ⟨g0, g1⟩ := RG.out.g; obtain ⟨s0, s1⟩ := RG.out.s; obtain ⟨t0, t1⟩ := RG.out.t
    obtain ⟨⟨f0, f1⟩, ⟨o0, o1⟩, ⟨d0, d1⟩, ⟨a0, a1⟩⟩ := RG.out.card
    have hn14 : n ≤ 14 := by have := RG.out.m; rw [HL.out] at this; exact this
    obtain ⟨_, _, _, _, _, _, _, _, c8⟩ := L3.out.cells
    have wr1 := sz_wrap n hn14
    have wr2 : IntKind.i64.wrap (7 * (n : Int)) = 7 * (n : Int) := IntWalk.i64_in _ (by omega)
    obtain ⟨sz, hsz⟩ : ∃ sz : Int, 17 + 7 * (n : Int) = sz := ⟨_, rfl⟩
    rw [hsz] at wr1
    have szb : 17 ≤ sz ∧ sz ≤ 116 := by omega
    have OK0 : Hid (Lf.Ok ⟨2, 0, 0, 0, sz, zeros 116⟩) := Lib.hid (by
      have z := Lf.zero_ok
      exact ⟨by show -9223372036854775808 ≤ (2 : Int) ∧ (2 : Int) ≤ _; decide, z.f, z.p, z.n, by show _ ≤ sz ∧ sz ≤ _; omega, z.l, z.u⟩)
    go_wp2_with (first | (with_reducible refine build_two rfl _ _ rfl 2 sz rfl rfl ?_) | (with_reducible refine alloc_leaf rfl rfl ?_))
    intro w4 l4 b4 s4
    obtain ⟨g, hg⟩ : ∃ g, g = w3.heap.size := ⟨_, rfl⟩
    rw [← hg] at l4 ⊢
    have G4 := Lib.hid l4
    have Z4 := Lib.hid (Z3.out.below b4)
    have L4 := Lib.hid (L3.out.below b4)
    have R4 := Lib.hid (R3.out.below (b4.mono hN3))
    have B4 := Lib.hid (bstep B3.out b4)
    have hN4 : N ≤ w4.heap.size := by have := b4.size; omega
    have hrg : r < g := by rw [hg]; exact Z3.out.lt
    have hNg : N ≤ g := by omega
    clear hg b4 s4 l4 L3 B3 R3 Z3 hN3 c8
    go_wp2_with (with_reducible refine store_leaf rfl _ _ rfl g Lf.zero _ G4.out OK0.out rfl rfl ?_)
    intro w5 l5 k5 s5
    have P5 : Hid (PreAt w5 g sz []) := Lib.hid l5
    have Z5 := Lib.hid (Z4.out.keep k5 (by omega))
    have L5 := Lib.hid (L4.out.keep k5 (by omega))
    have R5 := Lib.hid (R4.out.keep k5 hN4 (fun q hq => by omega))
    have B5 := Lib.hid (k5.below (fun k hk => by omega) B4.out B4.out.size)
    have hN5 : N ≤ w5.heap.size := by rw [s5]; exact hN4
    have hb5 : b < w5.heap.size := L5.out.lt
    have hbg : ¬ b = g := by omega
    obtain ⟨c0, c1, c2, c3, c4, c5, c6, c7, c8⟩ := L5.out.cells
    clear l5 k5 s5 L4 B4 R4 Z4 G4 hN4 OK0
    have K5 : Hid (Keep (· = g) w5 w5) := Lib.hid (Keep.refl _ _)

    obtain ⟨Q5, hq⟩ : ∃ Q : List Int, Q = [] := ⟨_, rfl⟩
    rw [← hq] at P5
    have QL5 : Hid (Q5.length = 0) := Lib.hid (by rw [hq]; rfl)
    have HQ5 := Lib.hid hq
    clear hq
    have PN := Lib.hid (fun cp => putN_drew g sz Q5 c.gen 4 cp (by decide) (by rw [QL5.out]; decide) (by omega) (by omega) (5) (by rw [QL5.out]) w5 P5.out)
    have e5 := (K5.out.cellK (a := ⟨b, 0, none⟩) hb5 hbg).trans c0
    go_wp2_with fail
    go_region_with ((go_at_call 65; with_reducible refine (PN.out _).mono ?_; rintro e w6 ⟨rfl, p2, k2⟩; have PX := Lib.hid p2; have KX := Lib.hid k2; clear p2 k2))
    obtain ⟨Q6, hq⟩ : ∃ Q, Q = Q5 ++ by4 c.gen := ⟨_, rfl⟩
    have P6 : Hid (PreAt w6 g sz Q6) := Lib.hid (by rw [hq]; exact PX.out)
    have QL6 : Hid (Q6.length = 4) := Lib.hid (by rw [hq, List.length_append, QL5.out]; rfl)
    have HQ6 := Lib.hid hq
    have K6 := Lib.hid (K5.out.step KX.out)
    clear hq PX KX PN e5 P5 K5
    have e6 := (K6.out.cellK (a := ⟨b, 1, none⟩) hb5 hbg).trans c1
    have y6 : w6.cell? ⟨g, 9, none⟩ = some (.int .u8 ((pad Q6).getD 4 0)) := P6.out.cell 4 (by decide)
    have z6 : w6.frozen? ⟨g, 9, none⟩ = false := LfAt.frozen P6.out _
    generalize (pad Q6).getD 4 0 = yy at y6
    go_upto_region 7 with fail
    obtain ⟨w7, hw⟩ : ∃ W, W = w6.setCell ⟨g, 9, none⟩ (.int .u8 c.step) := ⟨_, rfl⟩
    rw [← hw]
    obtain ⟨Q7, hq⟩ : ∃ Q, Q = Q6 ++ [c.step] := ⟨_, rfl⟩
    have P7 : Hid (PreAt w7 g sz Q7) := Lib.hid (by have := P6.out.store c.step ⟨by omega, by omega⟩ (by rw [QL6.out]; decide); rw [QL6.out] at this; rw [hw, hq]; exact this)
    have QL7 : Hid (Q7.length = 5) := Lib.hid (by rw [hq, List.length_append, QL6.out]; rfl)
    have HQ7 := Lib.hid hq
    have K7 : Hid (Keep (· = g) w5 w7) := Lib.hid (by rw [hw]; exact K6.out.cellF (a := ⟨g, 9, none⟩) rfl _)
    clear hw hq y6 z6 e6 P6 K6
    have e7 := (K7.out.cellK (a := ⟨b, 2, none⟩) hb5 hbg).trans c2
    have y7 : w7.cell? ⟨g, 10, none⟩ = some (.int .u8 ((pad Q7).getD 5 0)) := P7.out.cell 5 (by decide)
    have z7 : w7.frozen? ⟨g, 10, none⟩ = false := LfAt.frozen P7.out _
    generalize (pad Q7).getD 5 0 = yy at y7
    go_upto_region 8 with fail
    obtain ⟨w8, hw⟩ : ∃ W, W = w7.setCell ⟨g, 10, none⟩ (.int .u8 c.status) := ⟨_, rfl⟩
    rw [← hw]
    obtain ⟨Q8, hq⟩ : ∃ Q, Q = Q7 ++ [c.status] := ⟨_, rfl⟩
    have P8 : Hid (PreAt w8 g sz Q8) := Lib.hid (by have := P7.out.store c.status ⟨by omega, by omega⟩ (by rw [QL7.out]; decide); rw [QL7.out] at this; rw [hw, hq]; exact this)
    have QL8 : Hid (Q8.length = 6) := Lib.hid (by rw [hq, List.length_append, QL7.out]; rfl)
    have HQ8 := Lib.hid hq
    have K8 : Hid (Keep (· = g) w5 w8) := Lib.hid (by rw [hw]; exact K7.out.cellF (a := ⟨g, 10, none⟩) rfl _)
    clear hw hq y7 z7 e7 P7 K7
    have e8 := (K8.out.cellK (a := ⟨b, 3, none⟩) hb5 hbg).trans c3
    have y8 : w8.cell? ⟨g, 11, none⟩ = some (.int .u8 ((pad Q8).getD 6 0)) := P8.out.cell 6 (by decide)
    have z8 : w8.frozen? ⟨g, 11, none⟩ = false := LfAt.frozen P8.out _
    generalize (pad Q8).getD 6 0 = yy at y8
    go_upto_if 35 with fail
    go_cut [35] (fun _ wd => PreAt wd g sz (Q8 ++ [bit01 c.ended]) ∧ Keep (· = g) w5 wd)
    case first =>
      cases he : c.ended
      · rw [he] at e8
        go_wp2
        go_meet
        case rel => exact ⟨by rw [he]; have := P8.out; unfold PreAt at this ⊢; have e : pad (Q8 ++ [bit01 false]) = pad Q8 := pad_nought Q8 (by rw [QL8.out]; decide); rw [e]; exact this, K8.out⟩
      · rw [he] at e8
        go_wp2
        go_meet
        case rel => exact ⟨by rw [he]; have := P8.out.store 1 ⟨by decide, by decide⟩ (by rw [QL8.out]; decide); rw [QL8.out] at this; exact this, K8.out.cellF (a := ⟨g, 11, none⟩) rfl _⟩
    case rest =>
      obtain ⟨p9, k9⟩ := hcut
      obtain ⟨w9, hw⟩ : ∃ W, W = wc := ⟨_, rfl⟩
      rw [← hw] at p9 k9 ⊢
      obtain ⟨Q9, hq⟩ : ∃ Q, Q = Q8 ++ [bit01 c.ended] := ⟨_, rfl⟩
      rw [← hq] at p9
      have P9 := Lib.hid p9; have K9 := Lib.hid k9
      have QL9 : Hid (Q9.length = 7) := Lib.hid (by rw [hq, List.length_append, QL8.out]; rfl)
      have HQ9 := Lib.hid hq
      clear hw hq p9 k9 y8 z8 e8 P8 K8
      have e9 := (K9.out.cellK (a := ⟨b, 6, none⟩) hb5 hbg).trans c6
      have y9 : w9.cell? ⟨g, 12, none⟩ = some (.int .u8 ((pad Q9).getD 7 0)) := P9.out.cell 7 (by decide)
      have z9 : w9.frozen? ⟨g, 12, none⟩ = false := LfAt.frozen P9.out _
      generalize (pad Q9).getD 7 0 = yy at y9
      go_upto_region 11 with fail
      obtain ⟨w10, hw⟩ : ∃ W, W = w9.setCell ⟨g, 12, none⟩ (.int .u8 c.card.budget) := ⟨_, rfl⟩
      rw [← hw]
      obtain ⟨Q10, hq⟩ : ∃ Q, Q = Q9 ++ [c.card.budget] := ⟨_, rfl⟩
      have P10 : Hid (PreAt w10 g sz Q10) := Lib.hid (by have := P9.out.store c.card.budget ⟨by omega, by omega⟩ (by rw [QL9.out]; decide); rw [QL9.out] at this; rw [hw, hq]; exact this)
      have QL10 : Hid (Q10.length = 8) := Lib.hid (by rw [hq, List.length_append, QL9.out]; rfl)
      have HQ10 := Lib.hid hq
      have K10 : Hid (Keep (· = g) w5 w10) := Lib.hid (by rw [hw]; exact K9.out.cellF (a := ⟨g, 12, none⟩) rfl _)
      clear hw hq y9 z9 e9 P9 K9
      have e10 := (K10.out.cellK (a := ⟨b, 7, none⟩) hb5 hbg).trans c7
      have y10 : w10.cell? ⟨g, 13, none⟩ = some (.int .u8 ((pad Q10).getD 8 0)) := P10.out.cell 8 (by decide)
      have z10 : w10.frozen? ⟨g, 13, none⟩ = false := LfAt.frozen P10.out _
      generalize (pad Q10).getD 8 0 = yy at y10
      go_upto_region 12 with fail
      obtain ⟨w11, hw⟩ : ∃ W, W = w10.setCell ⟨g, 13, none⟩ (.int .u8 c.card.fan) := ⟨_, rfl⟩
      rw [← hw]
      obtain ⟨Q11, hq⟩ : ∃ Q, Q = Q10 ++ [c.card.fan] := ⟨_, rfl⟩
      have P11 : Hid (PreAt w11 g sz Q11) := Lib.hid (by have := P10.out.store c.card.fan ⟨by omega, by omega⟩ (by rw [QL10.out]; decide); rw [QL10.out] at this; rw [hw, hq]; exact this)
      have QL11 : Hid (Q11.length = 9) := Lib.hid (by rw [hq, List.length_append, QL10.out]; rfl)
      have HQ11 := Lib.hid hq
      have K11 : Hid (Keep (· = g) w5 w11) := Lib.hid (by rw [hw]; exact K10.out.cellF (a := ⟨g, 13, none⟩) rfl _)
      clear hw hq y10 z10 e10 P10 K10
      have PN := Lib.hid (fun cp => putN_drew g sz Q11 c.card.frm 4 cp (by decide) (by rw [QL11.out]; decide) (by omega) (by omega) (14) (by rw [QL11.out]) w11 P11.out)
      have e11 := (K11.out.cellK (a := ⟨b, 4, none⟩) hb5 hbg).trans c4
      go_wp2_with fail
      go_region_with ((go_at_call 65; with_reducible refine (PN.out _).mono ?_; rintro e w12 ⟨rfl, p2, k2⟩; have PX := Lib.hid p2; have KX := Lib.hid k2; clear p2 k2))
      obtain ⟨Q12, hq⟩ : ∃ Q, Q = Q11 ++ by4 c.card.frm := ⟨_, rfl⟩
      have P12 : Hid (PreAt w12 g sz Q12) := Lib.hid (by rw [hq]; exact PX.out)
      have QL12 : Hid (Q12.length = 13) := Lib.hid (by rw [hq, List.length_append, QL11.out]; rfl)
      have HQ12 := Lib.hid hq
      have K12 := Lib.hid (K11.out.step KX.out)
      clear hq PX KX PN e11 P11 K11
      have PN := Lib.hid (fun cp => putN_drew g sz Q12 c.card.to_ 4 cp (by decide) (by rw [QL12.out]; decide) (by omega) (by omega) (18) (by rw [QL12.out]) w12 P12.out)
      have e12 := (K12.out.cellK (a := ⟨b, 5, none⟩) hb5 hbg).trans c5
      go_wp2_with fail
      go_region_with ((go_at_call 65; with_reducible refine (PN.out _).mono ?_; rintro e w13 ⟨rfl, p2, k2⟩; have PX := Lib.hid p2; have KX := Lib.hid k2; clear p2 k2))
      obtain ⟨Q13, hq⟩ : ∃ Q, Q = Q12 ++ by4 c.card.to_ := ⟨_, rfl⟩
      have P13 : Hid (PreAt w13 g sz Q13) := Lib.hid (by rw [hq]; exact PX.out)
      have QL13 : Hid (Q13.length = 17) := Lib.hid (by rw [hq, List.length_append, QL12.out]; rfl)
      have HQ13 := Lib.hid hq
      have K13 := Lib.hid (K12.out.step KX.out)
      clear hq PX KX PN e12 P12 K12
      have QH : Hid (Q13 = c.head) := Lib.hid (by rw [HQ13.out, HQ12.out, HQ11.out, HQ10.out, HQ9.out, HQ8.out, HQ7.out, HQ6.out, HQ5.out]; exact head_of c)
      have e13 := (K13.out.cellK (a := ⟨b, 8, none⟩) hb5 hbg).trans c8
      clear HQ5 HQ6 HQ7 HQ8 HQ9 HQ10 HQ11 HQ12 HQ13 QL5 QL6 QL7 QL8 QL9 QL10 QL11 QL12 QL13 c0 c1 c2 c3 c4 c5 c6 c7 c8
      go_wp2
      go_loopw [5, 6, 65] (fun _ _ iv wr => ∃ i : Nat, i ≤ n ∧ iv = .int .i64 i ∧ PreAt wr g sz (c.head ++ flBytes (c.files.take i)) ∧ Keep (· = g) w5 wr) (fun _ _ iv _ => n - (intOf iv).toNat)
      case atStart => exact ⟨0, Nat.zero_le _, rfl, by have := P13.out; rw [QH.out] at this; rw [List.take_zero]; show PreAt w13 g sz (c.head ++ []); rw [List.append_nil]; exact this, K13.out⟩
      case round =>
        obtain ⟨i, hi, rfl, hp, hk⟩ := hrel
        have PI := Lib.hid hp; have KI := Lib.hid hk
        clear hp hk P13 K13
        by_cases hlt : i < n
        · have i1 : decide ((i : Int) < (n : Int)) = true := by rw [decide_eq_true_eq]; omega
          have RI := Lib.hid (R5.out.keep KI.out hN5 (fun q hq => by omega))
          obtain ⟨fb, fo, rfl, hfb, z0, z1, z2, z3, fok⟩ := RI.out i (by rw [HL.out]; exact hlt)
          have hfr : (flAt c.files i).Right := RG.out.f i (by rw [HL.out]; exact hlt)
          obtain ⟨⟨n0, n1⟩, ⟨f0, f1⟩, ⟨x0, x1⟩, ⟨k0, k1⟩⟩ := id fok
          have FS := Lib.hid (flBytes_snoc c.files i (by rw [HL.out]; exact hlt))
          obtain ⟨f, hf⟩ : ∃ f, flAt c.files i = f := ⟨_, rfl⟩
          rw [hf] at z0 z1 z2 z3 n0 n1 f0 f1 x0 x1 k0 k1 hfr FS
          have FR := Lib.hid hfr
          have PLN : Hid ((c.head ++ flBytes (c.files.take i)).length = 17 + 7 * i) := Lib.hid (by rw [List.length_append, c.head_len, flBytes_len, List.length_take, HL.out, Nat.min_eq_left hi])
          clear hf hfr fok RI e13
          go_upto_region 17 with fail
          obtain ⟨W, hW⟩ : ∃ W, W = wr.alloc (.cells #[.int .i64 f.name, .int .i64 f.file, .int .i64 f.first, .int .i64 f.blocks] 40) := ⟨_, rfl⟩
          obtain ⟨h, hh⟩ : ∃ h, h = wr.heap.size := ⟨_, rfl⟩
          rw [← hW, ← hh]
          have hbW : Below wr.heap.size wr W := by rw [hW]; exact (Below.refl _ _).alloc (Nat.le_refl _) _
          have PW := Lib.hid (PI.out.keep (F := fun _ => False) (Keep.of_below hbW) (fun e => e))
          have KW : Hid (Keep (· = g) w5 W) := Lib.hid (KI.out.step (Keep.of_below hbW))
          have y0 : W.cell? ⟨h, 0, none⟩ = some (.int .i64 f.name) := by rw [hW, hh]; exact cell_of_row _ _ _ _ _ _ (heap_alloc_new wr _)
          have y1 : W.cell? ⟨h, 1, none⟩ = some (.int .i64 f.file) := by rw [hW, hh]; exact cell_of_row _ _ _ _ _ _ (heap_alloc_new wr _)
          have y2 : W.cell? ⟨h, 2, none⟩ = some (.int .i64 f.first) := by rw [hW, hh]; exact cell_of_row _ _ _ _ _ _ (heap_alloc_new wr _)
          have y3 : W.cell? ⟨h, 3, none⟩ = some (.int .i64 f.blocks) := by rw [hW, hh]; exact cell_of_row _ _ _ _ _ _ (heap_alloc_new wr _)
          clear hW hh hbW PI KI z0 z1 z2 z3
          have PF : Hid (∀ len cap, 7 ≤ len → len ≤ cap → cap ≤ 116 → Calls Try.prog 66 #[.slice (some ⟨g, 5 + (17 + 7 * i), none⟩) len cap, .agg #[.int .i64 f.name, .int .i64 f.file, .int .i64 f.first, .int .i64 f.blocks]] W.drew fun e w' => e = .returned (.tuple #[]) ∧ PreAt w' g sz (c.head ++ flBytes (c.files.take (i + 1))) ∧ Keep (· = g) W w') := Lib.hid (fun len cap h1 h2 h3 => (putF_any g sz _ f FR.out len cap h1 h2 h3 (by rw [PLN.out]; omega) _ (by rw [PLN.out]) W.drew PW.out).mono fun e w' ⟨q1, q2, q3⟩ => ⟨q1, by rw [FS.out, ← List.append_assoc]; exact q2, (Keep.of_below (Below.refl _ W).drew).step q3⟩)
          have wr3 : IntKind.i64.wrap (7 * (i : Int)) = 7 * (i : Int) := IntWalk.i64_in _ (by omega)
          have wr4 := sz_wrap i (by omega)
          have q0 : (0 : Int) ≤ 17 + 7 * (i : Int) := by omega
          have q1 : 17 + 7 * (i : Int) ≤ 116 := by omega
          have q2 : (17 + 7 * (i : Int)).toNat = 17 + 7 * i := by omega
          have q3 : ¬ 116 = 17 + 7 * i := by omega
          have PG := Lib.hid (PF.out (116 - (17 + 7 * i)) (116 - (17 + 7 * i)) (by omega) (Nat.le_refl _) (by omega))
          clear PF
          go_region_with ((go_at_call 66; with_reducible refine PG.out.mono ?_; rintro e wz ⟨rfl, p2, k2⟩; have PX := Lib.hid p2; have KX := Lib.hid k2; clear p2 k2))
          have KZ := Lib.hid (KW.out.step KX.out)
          clear KX KW PW PG y0 y1 y2 y3
          go_wp2
          go_roundw
          case rel => exact ⟨i + 1, by omega, by go_num, PX.out, KZ.out⟩
          case measure => simp [intOf]; omega
        · obtain rfl : i = n := by omega
          have i1 : decide ((i : Int) < (i : Int)) = false := by simp
          have EB : Hid (c.leaf = ⟨2, 0, 0, 0, sz, pad (c.head ++ flBytes (c.files.take i))⟩) := Lib.hid (by
            have e1 : c.head ++ flBytes (c.files.take i) = c.bytes := by rw [List.take_of_length_le (by rw [HL.out]; exact Nat.le_refl _)]; rfl
            rw [e1]
            have e2 : (c.bytes.length : Int) = sz := by rw [c.bytes_len, HL.out, ← hsz]; omega
            rw [← e2]; rfl)
          have LI : Hid (LfAt wr g c.leaf) := Lib.hid (by rw [EB.out]; exact PI.out)
          have ZI := Lib.hid (Z5.out.keep KI.out (by omega))
          have BI := Lib.hid (KI.out.below (fun k hk => by omega) B5.out B5.out.size)
          clear PI KI EB
          go_wp2_with (first | (with_reducible refine load_leaf rfl _ rfl g c.leaf LI.out rfl ?_) | (with_reducible refine store_leaf rfl _ _ rfl r Lf.zero c.leaf ZI.out (Ct.leaf_ok RG.out) rfl rfl ?_))
          intro wf lf kf sf
          have LF := Lib.hid lf
          have BF := Lib.hid (kf.below (fun k hk => by omega) BI.out BI.out.size)
          clear lf kf sf
          go_wp2
          refine ret_one 2 rfl rfl LF.out rfl ⟨?_, BF.out⟩
          rw [PE.out]
end Go.Proofs.Ytilmicekpclmbaa
