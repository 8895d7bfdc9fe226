/-
  The contracts of package catalog's rightFiles and Right: Right says whether a catalog is right; nothing that was in memory turns.
-/
import Derived.Test.YtoolmmjiemkpbaaCPa
import Derived.Test.YtoolmmjiemkpbaaCRb
import Derived.Test.YtoolmmjiemkpbaaCB
namespace Go.Proofs.Ytoolmmjiemkpbaa
set_option linter.unusedVariables false
set_option linter.unusedSimpArgs false
set_option maxRecDepth 100000
open Go.RowKit

open Classical in
noncomputable def filesRt (l : List Fl) : Bool := decide (l.length ≤ 14 ∧ ∀ i, i < l.length → fileOk l i)
theorem filesRt_yes {l : List Fl} : filesRt l = true ↔ (l.length ≤ 14 ∧ ∀ i, i < l.length → fileOk l i) := by unfold filesRt; simp
theorem filesRt_no {l : List Fl} : filesRt l = false ↔ ¬ (l.length ≤ 14 ∧ ∀ i, i < l.length → fileOk l i) := by unfold filesRt; simp
/-- The name ahead of a place. -/
def lastN (l : List Fl) (i : Nat) : Int := if i = 0 then 0 else (flAt l (i - 1)).name
theorem lastN_ok {l : List Fl} {i : Nat} (h : ∀ j, j < i → fileOk l j) : 0 ≤ lastN l i ∧ lastN l i ≤ 255 := by
  unfold lastN
  split
  · omega
  · have := (h (i - 1) (by omega)).f.n; omega
theorem fileOk_of {l : List Fl} {i : Nat} (h : (flAt l i).Right) (hn : lastN l i < (flAt l i).name) : fileOk l i := ⟨h, fun h0 => by unfold lastN at hn; rw [if_neg (by omega)] at hn; exact hn⟩
theorem fileOk_last {l : List Fl} {i : Nat} (h : fileOk l i) : lastN l i < (flAt l i).name := by
  unfold lastN
  split
  · have := h.f.n; omega
  · exact h.r (by omega)
set_option maxHeartbeats 2000000 in
theorem files_any (l : List Fl) (N : Nat) (A : Option Addr) (n cap : Nat) (w : World) (hl : l.length = n) (hm : n ≤ maxLen) (hr : FlR w N A l) (hN : N ≤ w.heap.size) :
    Calls Try.prog 34 #[.slice A n cap] w fun e w' => e = .returned (.bool (filesRt l)) ∧ Below w.heap.size w w' := by
  unfold maxLen at hm
  have HL := Lib.hid hl; have HR := Lib.hid hr
  clear hl hr
  go_enter Try.func34, Try.ntmps34
  by_cases h14 : n ≤ 14
  · have t1 : decide ((n : Int) > 14) = false := by rw [decide_eq_false_iff_not]; omega
    have t2 : decide ((14 : Int) < (n : Int)) = false := by rw [decide_eq_false_iff_not]; omega
    go_wp2
    go_loopw [3, 5, 11] (fun lv _ iv wr => ∃ i : Nat, i ≤ n ∧ iv = .int .i64 i ∧ lv = .int .i64 (lastN l i) ∧ (∀ j, j < i → fileOk l j) ∧ Below w.heap.size w wr) (fun _ _ iv _ => n - (intOf iv).toNat)
    case atStart => exact ⟨0, Nat.zero_le _, rfl, rfl, fun j hj => by omega, Below.refl _ _⟩
    case round =>
      obtain ⟨i, hi, rfl, rfl, hall, bw⟩ := hrel
      have HALL := Lib.hid hall
      obtain ⟨la0, la1⟩ := lastN_ok hall
      clear hall
      obtain ⟨la, hla⟩ : ∃ la, lastN l i = la := ⟨_, rfl⟩
      rw [hla] at la0 la1 ⊢
      have HLA := Lib.hid hla
      clear hla
      by_cases hlt : i < n
      · have i1 : decide ((i : Int) < (n : Int)) = true := by rw [decide_eq_true_eq]; omega
        have R3 := Lib.hid (HR.out.below (bw.mono hN))
        have hN3 : N ≤ wr.heap.size := by have := bw.size; omega
        obtain ⟨fb, fo, rfl, hfb, z0, z1, z2, z3, fok⟩ := R3.out i (by rw [HL.out]; exact hlt)
        obtain ⟨⟨n0, n1⟩, ⟨f0, f1⟩, ⟨x0, x1⟩, ⟨k0, k1⟩⟩ := id fok
        have FA := Lib.hid (fun w0 => file_any (flAt l i) fok w0)
        have BW := Lib.hid bw
        clear bw fok R3
        obtain ⟨f, hf⟩ : ∃ f, flAt l i = f := ⟨_, rfl⟩
        rw [hf] at z0 z1 z2 z3 n0 n1 f0 f1 x0 x1 k0 k1 FA
        have HF := Lib.hid hf
        clear hf
        go_wp2_with fail
        obtain ⟨W, hW⟩ : ∃ W, W = wr.alloc (.cells #[.int .i64 f.name, .int .i64 f.file, .int .i64 f.first, .int .i64 f.blocks] 33) := ⟨_, rfl⟩
        rw [← hW]
        obtain ⟨g, hg⟩ : ∃ g, g = wr.heap.size := ⟨_, rfl⟩
        rw [← hg]
        have y0 : W.cell? ⟨g, 0, none⟩ = some (.int .i64 f.name) := by rw [hW, hg]; exact cell_of_row _ _ _ _ _ _ (heap_alloc_new wr _)
        have hgW : g < W.heap.size := by rw [hW, hg]; simp
        have hbW : Below wr.heap.size wr W := by rw [hW]; exact (Below.refl _ _).alloc (Nat.le_refl _) _
        have BW2 := Lib.hid (bstep BW.out hbW)
        clear hW hg hbW BW z0 z1 z2 z3
        refine (FA.out W).mono ?_
        rintro e w2 ⟨rfl, b2⟩
        have BW3 := Lib.hid (bstep BW2.out b2)
        have y1 : w2.cell? ⟨g, 0, none⟩ = some (.int .i64 f.name) := by rw [b2.cell (p := ⟨g, 0, none⟩) hgW]; exact y0
        clear b2 y0 BW2
        cases hq : f.rt
        · have NR : Hid (filesRt l = false) := Lib.hid (filesRt_no.2 (fun r => Fl.rt_no.1 hq (by rw [← HF.out]; exact (r.2 i (by rw [HL.out]; exact hlt)).f)))
          clear hq
          go_wp2
          go_ret
          exact ⟨by rw [NR.out]; rfl, BW3.out⟩
        · by_cases hn : la < f.name
          · have q1 : decide (f.name ≤ la) = false := by rw [decide_eq_false_iff_not]; omega
            have HN : Hid (∀ j, j < i + 1 → fileOk l j) := Lib.hid (fun j hj => by
              by_cases hji : j = i
              · rw [hji]; exact fileOk_of (by rw [HF.out]; exact Fl.rt_iff.1 hq) (by rw [HF.out, HLA.out]; exact hn)
              · exact HALL.out j (by omega))
            have HX : Hid (f.name = lastN l (i + 1)) := Lib.hid (by unfold lastN; rw [if_neg (by omega), Nat.add_sub_cancel, HF.out])
            clear hq hn
            go_wp2
            go_roundw
            case rel => exact ⟨i + 1, by omega, by go_num, by rw [HX.out], HN.out, BW3.out⟩
            case measure => simp [intOf]; omega
          · have q1 : decide (f.name ≤ la) = true := by rw [decide_eq_true_eq]; omega
            have NR : Hid (filesRt l = false) := Lib.hid (filesRt_no.2 (fun r => hn (by have := fileOk_last (r.2 i (by rw [HL.out]; exact hlt)); rw [HF.out, HLA.out] at this; exact this)))
            clear hq hn
            go_wp2
            go_ret
            exact ⟨by rw [NR.out]; rfl, BW3.out⟩
      · obtain rfl : i = n := by omega
        have i1 : decide ((i : Int) < (i : Int)) = false := by simp
        have NR : Hid (filesRt l = true) := Lib.hid (filesRt_yes.2 ⟨by rw [HL.out]; exact h14, by rw [HL.out]; exact HALL.out⟩)
        go_wp2
        go_ret
        exact ⟨by rw [NR.out]; rfl, bw⟩
  · have t1 : decide ((n : Int) > 14) = true := by rw [decide_eq_true_eq]; omega
    have t2 : decide ((14 : Int) < (n : Int)) = true := by rw [decide_eq_true_eq]; omega
    have NR : Hid (filesRt l = false) := Lib.hid (filesRt_no.2 (fun r => h14 (by rw [← HL.out]; exact r.1)))
    go_wp2
    go_ret
    exact ⟨by rw [NR.out]; rfl, Below.refl _ _⟩
theorem Ct.rt_in (c : Ct) : c.rt = (inB c.gen 0 1000 && (inB c.step 0 20 && (c.endOk && ((decide (c.card = Cd.zero) || c.card.rt) && filesRt c.files)))) := by
  rw [Bool.eq_iff_iff, Ct.rt_iff]
  simp only [Bool.and_eq_true, Bool.or_eq_true, inB_yes, Ct.endOk_iff, filesRt_yes, Cd.rt_iff, decide_eq_true_eq]
  exact ⟨fun r => ⟨r.g, r.s, ⟨r.t, r.e⟩, r.k, r.m, fun i hi => file_of_right r i hi⟩, fun ⟨a, b, c, d, e, f⟩ => right_of_front ⟨a, b, c.1, c.2, e, d⟩ f⟩
attribute [local go_sem ↓] eqlCd_eq
set_option maxHeartbeats 2000000 in
theorem cat_any (c : Ct) (ok : c.Ok) (N : Nat) (A : Option Addr) (n cap : Nat) (w : World) (hl : c.files.length = n) (hm : n ≤ maxLen) (hr : FlR w N A c.files) (hN : N ≤ w.heap.size) :
    Calls Try.prog 8 #[.agg (ctv c A n cap).toArray] w fun e w' => e = .returned (.bool c.rt) ∧ Below w.heap.size w w' := by
  rw [Ct.rt_in]
  have W1 := Lib.hid (fun w0 => within_any c.gen 0 1000 ok.g ⟨by decide, by decide⟩ ⟨by decide, by decide⟩ w0)
  have W2 := Lib.hid (fun w0 => within_any c.step 0 20 ok.s ⟨by decide, by decide⟩ ⟨by decide, by decide⟩ w0)
  have W3 := Lib.hid (fun w0 => end_any c ok.t A n cap w0)
  have W4 := Lib.hid (fun w0 => card_any c.card ok.k w0)
  have W5 := Lib.hid (fun w0 h0 h1 => files_any c.files N A n cap w0 hl hm h0 h1)
  have zr : Hid (∀ w, (eqlCd (.agg #[.int .i64 c.card.frm, .int .i64 c.card.to_, .int .i64 c.card.budget, .int .i64 c.card.fan]) (.agg #[.int .i64 0, .int .i64 0, .int .i64 0, .int .i64 0])).run Try.prog w = .ok (.bool (decide (c.card = Cd.zero))) w) := Lib.hid (fun w => eqlCd_run c.card Cd.zero w)
  have eg := cd_guard
  obtain ⟨t1, h1⟩ : ∃ q, inB c.gen 0 1000 = q := ⟨_, rfl⟩
  obtain ⟨t2, h2⟩ : ∃ q, inB c.step 0 20 = q := ⟨_, rfl⟩
  obtain ⟨t3, h3⟩ : ∃ q, c.endOk = q := ⟨_, rfl⟩
  obtain ⟨t4, h4⟩ : ∃ q, decide (c.card = Cd.zero) = q := ⟨_, rfl⟩
  obtain ⟨t5, h5⟩ : ∃ q, c.card.rt = q := ⟨_, rfl⟩
  obtain ⟨t6, h6⟩ : ∃ q, filesRt c.files = q := ⟨_, rfl⟩
  rw [h1] at W1; rw [h2] at W2; rw [h3] at W3; rw [h4] at zr; rw [h5] at W4; rw [h6] at W5
  rw [h1, h2, h3, h4, h5, h6]
  have HR := Lib.hid hr
  obtain ⟨g0, g1⟩ := ok.g; obtain ⟨s0, s1⟩ := ok.s; obtain ⟨u0, u1⟩ := ok.t
  clear h1 h2 h3 h4 h5 h6 hl hr ok
  go_enter Try.func8, Try.ntmps8
  go_wp2_with (with_reducible refine box_ct rfl _ rfl c A n cap rfl ?_)
  intro w1 l1 b1 s1'
  obtain ⟨b, hb⟩ : ∃ b, b = w.heap.size := ⟨_, rfl⟩
  rw [← hb] at l1 ⊢
  have L1 := Lib.hid l1; have B1 := Lib.hid b1
  have R1 := Lib.hid (HR.out.below (b1.mono hN))
  have hN1 : N ≤ w1.heap.size := by have := b1.size; omega
  obtain ⟨c0, c1, c2, c3, c4, c5, c6, c7, c8⟩ := l1.cells
  clear hb b1 s1' l1 HR
  go_wp2_with fail
  refine (W1.out _).mono ?_
  rintro e w2 ⟨rfl, rfl⟩
  cases t1
  · go_wp2
    go_ret
    exact ⟨rfl, B1.out⟩
  · go_wp2_with fail
    refine (W2.out _).mono ?_
    rintro e w2 ⟨rfl, rfl⟩
    cases t2
    · go_wp2
      go_ret
      exact ⟨rfl, B1.out⟩
    · go_wp2_with (with_reducible refine load_ct rfl _ rfl b c A n cap L1.out rfl ?_)
      refine (W3.out _).mono ?_
      rintro e w2 ⟨rfl, b2⟩
      have L2 := Lib.hid (L1.out.below b2)
      have R2 := Lib.hid (R1.out.below (b2.mono hN1))
      have B2 := Lib.hid (bstep B1.out b2)
      have hN2 : N ≤ w2.heap.size := by have := b2.size; omega
      obtain ⟨c0, c1, c2, c3, c4, c5, c6, c7, c8⟩ := L2.out.cells
      clear b2 L1 R1 B1
      cases t3
      · go_wp2
        go_ret
        exact ⟨rfl, B2.out⟩
      · have zr := zr.out
        cases t4
        · go_wp2_with fail
          refine (W4.out _).mono ?_
          rintro e w3 ⟨rfl, b3⟩
          have L3 := Lib.hid (L2.out.below b3)
          have R3 := Lib.hid (R2.out.below (b3.mono hN2))
          have B3 := Lib.hid (bstep B2.out b3)
          have hN3 : N ≤ w3.heap.size := by have := b3.size; omega
          obtain ⟨c0, c1, c2, c3, c4, c5, c6, c7, c8⟩ := L3.out.cells
          clear b3 L2 R2 B2 zr
          cases t5
          · go_wp2
            go_ret
            exact ⟨rfl, B3.out⟩
          · go_wp2_with fail
            refine (W5.out _ R3.out hN3).mono ?_
            rintro e w4 ⟨rfl, b4⟩
            have B4 := Lib.hid (bstep B3.out b4)
            clear b4
            go_wp2
            go_ret
            exact ⟨rfl, B4.out⟩
        · go_wp2_with fail
          refine (W5.out _ R2.out hN2).mono ?_
          rintro e w4 ⟨rfl, b4⟩
          have B4 := Lib.hid (bstep B2.out b4)
          clear b4 zr
          go_wp2
          go_ret
          exact ⟨rfl, B4.out⟩
end Go.Proofs.Ytoolmmjiemkpbaa
