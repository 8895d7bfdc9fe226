/-
  The document's own RightCatalog (sheafref5): whether a catalog is right.
-/
import Derived.Test.YtjiigbmfbmkhjaaCA
import Derived.Deep.DeepCutAuto
import Derived.Deep.QuietTactic
import Derived.BigQuiet
import Derived.WalkSmall
import Derived.IntWalk
namespace Go.Proofs.Ytjiigbmfbmkhjaa
set_option linter.unusedVariables false
set_option linter.unusedSimpArgs false
open Go.RowKit

open Classical in
/-- Is it right? -/
noncomputable def Ct.rt (c : Ct) : Bool := decide c.Right
theorem Ct.rt_iff {c : Ct} : c.rt = true ↔ c.Right := by unfold Ct.rt; simp
theorem Ct.rt_no {c : Ct} : c.rt = false ↔ ¬ c.Right := by unfold Ct.rt; simp
/-- What is asked of it ahead of its files. -/
structure Ct.Front (c : Ct) : Prop where
  g : 0 ≤ c.gen ∧ c.gen ≤ 1000
  s : 0 ≤ c.step ∧ c.step ≤ 20
  t : 0 ≤ c.status ∧ c.status ≤ 7
  e : c.ended = false → c.status = 0
  m : c.files.length ≤ 14
  k : c.card = Cd.zero ∨ c.card.Right
open Classical in
noncomputable def Ct.bad (c : Ct) : Bool := !decide c.Front
theorem Ct.bad_yes {c : Ct} : c.bad = true ↔ ¬ c.Front := by unfold Ct.bad; simp
theorem Ct.bad_no {c : Ct} : c.bad = false ↔ c.Front := by unfold Ct.bad; simp
/-- What is asked of a file. -/
structure fileOk (l : List Fl) (i : Nat) : Prop where
  f : (flAt l i).Right
  r : 0 < i → (flAt l (i - 1)).name < (flAt l i).name
open Classical in
noncomputable def fileBad (l : List Fl) (i : Nat) : Bool := !decide (fileOk l i)
theorem fileBad_yes {l : List Fl} {i : Nat} : fileBad l i = true ↔ ¬ fileOk l i := by unfold fileBad; simp
theorem fileBad_no {l : List Fl} {i : Nat} : fileBad l i = false ↔ fileOk l i := by unfold fileBad; simp
theorem right_of_front {c : Ct} (h : c.Front) (hf : ∀ i, i < c.files.length → fileOk c.files i) : c.Right :=
  ⟨h.g, h.s, h.t, h.e, h.k, h.m, fun i hi => (hf i hi).f, fun i hi => (hf (i + 1) hi).r (by omega)⟩
theorem file_of_right {c : Ct} (h : c.Right) (i : Nat) (hi : i < c.files.length) : fileOk c.files i :=
  ⟨h.f i hi, fun h0 => by have := h.r (i - 1) (by omega); rw [Nat.sub_add_cancel (by omega)] at this; exact this⟩
attribute [local go_sem ↓] neqCd_eq
set_option maxRecDepth 100000 in
set_option maxHeartbeats 8000000 in
theorem rcat_any (c : Ct) (ok : c.Ok) (N : Nat) (A : Option Addr) (n cap : Nat) (w : World) (hl : c.files.length = n) (hm : n ≤ maxLen) (hr : FlR w N A c.files) (hN : N ≤ w.heap.size) :
    Calls Try.prog 17 #[.agg (ctv c A n cap).toArray] w fun e w' => e = .returned (.bool c.rt) ∧ Below w.heap.size w w' := by
  unfold maxLen at hm
  have HL := Lib.hid hl; have HR := Lib.hid hr; have OK := Lib.hid ok
  obtain ⟨g0, g1⟩ := ok.g; obtain ⟨s0, s1⟩ := ok.s; obtain ⟨t0, t1⟩ := ok.t
  clear hl hr ok
  go_enter Try.func17, Try.ntmps17
  go_wp2_with (with_reducible refine box_ct rfl _ rfl c A n cap rfl ?_)
  intro w1 l1 b1 s1'
  obtain ⟨b, hb⟩ : ∃ b, b = w.heap.size := ⟨_, rfl⟩
  rw [← hb] at l1 ⊢
  have L1 := Lib.hid l1; have B1 := Lib.hid b1
  have R1 := Lib.hid (HR.out.below (b1.mono hN))
  obtain ⟨c0, c1, c2, c3, c4, c5, c6, c7, c8⟩ := l1.cells
  have hbw : w.heap.size ≤ b := by omega
  have hN1 : N ≤ w1.heap.size := by have := b1.size; omega
  clear hb b1 s1' l1
  go_upto_region 1 with fail
  go_cut [60] (fun v wd => v = .bool c.bad ∧ CtAt wd b c A n cap ∧ Below w1.heap.size w1 wd)
  case first =>
    have RC := Lib.hid (fun w0 => rcard_any c.card OK.out.k w0)
    have zr : Hid (∀ w, (neqCd (.agg #[.int .i64 c.card.frm, .int .i64 c.card.to_, .int .i64 c.card.budget, .int .i64 c.card.fan]) (.agg #[.int .i64 0, .int .i64 0, .int .i64 0, .int .i64 0])).run Try.prog w = .ok (.bool (!decide (c.card = Cd.zero))) w) := Lib.hid (fun w => neqCd_run c.card Cd.zero w)
    have eg := cd_guard
    cases he : c.ended
    · by_cases h0 : c.gen < 0
      · have d0_0 : decide (c.gen < 0) = true := by simpa using h0
        have d0_1 : decide (0 ≤ c.gen) = false := by simpa using h0
        have NR : Hid (c.bad = true) := Lib.hid (Ct.bad_yes.2 (fun r => by have := r.g; have := r.s; have := r.t; have := r.e; have := r.m; have := HL.out; first | omega | (have := r.e he; omega)))
        clear h0
        rw [he] at c3
        go_wp2
        go_meet
        case rel => exact ⟨by rw [NR.out], L1.out, Below.refl _ _⟩
      · have d0_0 : decide (c.gen < 0) = false := by simpa using h0
        have d0_1 : decide (0 ≤ c.gen) = true := by simpa using h0
        by_cases h1 : 1000 < c.gen
        · have d1_0 : decide (1000 < c.gen) = true := by simpa using h1
          have d1_1 : decide (c.gen > 1000) = true := by simpa using h1
          have d1_2 : decide (c.gen ≤ 1000) = false := by simpa using h1
          have NR : Hid (c.bad = true) := Lib.hid (Ct.bad_yes.2 (fun r => by have := r.g; have := r.s; have := r.t; have := r.e; have := r.m; have := HL.out; first | omega | (have := r.e he; omega)))
          clear h0 h1
          rw [he] at c3
          go_wp2
          go_meet
          case rel => exact ⟨by rw [NR.out], L1.out, Below.refl _ _⟩
        · have d1_0 : decide (1000 < c.gen) = false := by simpa using h1
          have d1_1 : decide (c.gen > 1000) = false := by simpa using h1
          have d1_2 : decide (c.gen ≤ 1000) = true := by simpa using h1
          by_cases h2 : c.step < 0
          · have d2_0 : decide (c.step < 0) = true := by simpa using h2
            have d2_1 : decide (0 ≤ c.step) = false := by simpa using h2
            have NR : Hid (c.bad = true) := Lib.hid (Ct.bad_yes.2 (fun r => by have := r.g; have := r.s; have := r.t; have := r.e; have := r.m; have := HL.out; first | omega | (have := r.e he; omega)))
            clear h0 h1 h2
            rw [he] at c3
            go_wp2
            go_meet
            case rel => exact ⟨by rw [NR.out], L1.out, Below.refl _ _⟩
          · have d2_0 : decide (c.step < 0) = false := by simpa using h2
            have d2_1 : decide (0 ≤ c.step) = true := by simpa using h2
            by_cases h3 : 20 < c.step
            · have d3_0 : decide (20 < c.step) = true := by simpa using h3
              have d3_1 : decide (c.step > 20) = true := by simpa using h3
              have d3_2 : decide (c.step ≤ 20) = false := by simpa using h3
              have NR : Hid (c.bad = true) := Lib.hid (Ct.bad_yes.2 (fun r => by have := r.g; have := r.s; have := r.t; have := r.e; have := r.m; have := HL.out; first | omega | (have := r.e he; omega)))
              clear h0 h1 h2 h3
              rw [he] at c3
              go_wp2
              go_meet
              case rel => exact ⟨by rw [NR.out], L1.out, Below.refl _ _⟩
            · have d3_0 : decide (20 < c.step) = false := by simpa using h3
              have d3_1 : decide (c.step > 20) = false := by simpa using h3
              have d3_2 : decide (c.step ≤ 20) = true := by simpa using h3
              by_cases h4 : c.status < 0
              · have d4_0 : decide (c.status < 0) = true := by simpa using h4
                have d4_1 : decide (0 ≤ c.status) = false := by simpa using h4
                have NR : Hid (c.bad = true) := Lib.hid (Ct.bad_yes.2 (fun r => by have := r.g; have := r.s; have := r.t; have := r.e; have := r.m; have := HL.out; first | omega | (have := r.e he; omega)))
                clear h0 h1 h2 h3 h4
                rw [he] at c3
                go_wp2
                go_meet
                case rel => exact ⟨by rw [NR.out], L1.out, Below.refl _ _⟩
              · have d4_0 : decide (c.status < 0) = false := by simpa using h4
                have d4_1 : decide (0 ≤ c.status) = true := by simpa using h4
                by_cases h5 : 7 < c.status
                · have d5_0 : decide (7 < c.status) = true := by simpa using h5
                  have d5_1 : decide (c.status > 7) = true := by simpa using h5
                  have d5_2 : decide (c.status ≤ 7) = false := by simpa using h5
                  have NR : Hid (c.bad = true) := Lib.hid (Ct.bad_yes.2 (fun r => by have := r.g; have := r.s; have := r.t; have := r.e; have := r.m; have := HL.out; first | omega | (have := r.e he; omega)))
                  clear h0 h1 h2 h3 h4 h5
                  rw [he] at c3
                  go_wp2
                  go_meet
                  case rel => exact ⟨by rw [NR.out], L1.out, Below.refl _ _⟩
                · have d5_0 : decide (7 < c.status) = false := by simpa using h5
                  have d5_1 : decide (c.status > 7) = false := by simpa using h5
                  have d5_2 : decide (c.status ≤ 7) = true := by simpa using h5
                  by_cases h6 : ¬ c.status = 0
                  · have d6_0 : (c.status != 0) = true := by simpa using h6
                    have d6_1 : (c.status == 0) = false := by simpa using h6
                    have NR : Hid (c.bad = true) := Lib.hid (Ct.bad_yes.2 (fun r => by have := r.g; have := r.s; have := r.t; have := r.e; have := r.m; have := HL.out; first | omega | (have := r.e he; omega)))
                    clear h0 h1 h2 h3 h4 h5 h6
                    rw [he] at c3
                    go_wp2
                    go_meet
                    case rel => exact ⟨by rw [NR.out], L1.out, Below.refl _ _⟩
                  · have d6_0 : (c.status != 0) = false := by simpa using h6
                    have d6_1 : (c.status == 0) = true := by simpa using h6
                    by_cases h7 : 14 < n
                    · have d7_0 : decide (14 < (n : Int)) = true := by simp; omega
                      have d7_1 : decide ((n : Int) > 14) = true := by simp; omega
                      have d7_2 : decide ((n : Int) ≤ 14) = false := by simp; omega
                      have d7_3 : decide (14 < n) = true := by simpa using h7
                      have d7_4 : decide (n ≤ 14) = false := by simpa using h7
                      have NR : Hid (c.bad = true) := Lib.hid (Ct.bad_yes.2 (fun r => by have := r.g; have := r.s; have := r.t; have := r.e; have := r.m; have := HL.out; first | omega | (have := r.e he; omega)))
                      clear h0 h1 h2 h3 h4 h5 h6 h7
                      rw [he] at c3
                      go_wp2
                      go_meet
                      case rel => exact ⟨by rw [NR.out], L1.out, Below.refl _ _⟩
                    · have d7_0 : decide (14 < (n : Int)) = false := by simp; omega
                      have d7_1 : decide ((n : Int) > 14) = false := by simp; omega
                      have d7_2 : decide ((n : Int) ≤ 14) = true := by simp; omega
                      have d7_3 : decide (14 < n) = false := by simpa using h7
                      have d7_4 : decide (n ≤ 14) = true := by simpa using h7
                      rw [he] at c3
                      by_cases hz : c.card = Cd.zero
                      · have eq1 : ∀ w, (neqCd (.agg #[.int .i64 c.card.frm, .int .i64 c.card.to_, .int .i64 c.card.budget, .int .i64 c.card.fan]) (.agg #[.int .i64 0, .int .i64 0, .int .i64 0, .int .i64 0])).run Try.prog w = .ok (.bool false) w := fun w => by rw [zr.out w, decide_eq_true hz]; rfl
                        have NR : Hid (c.bad = false) := Lib.hid (Ct.bad_no.2 ⟨⟨by omega, by omega⟩, ⟨by omega, by omega⟩, ⟨by omega, by omega⟩, (fun _ => by omega), by rw [HL.out]; omega, Or.inl hz⟩)
                        clear h0 h1 h2 h3 h4 h5 h6 h7 hz
                        go_wp2
                        go_meet
                        case rel => exact ⟨by rw [NR.out], L1.out, Below.refl _ _⟩
                      · have eq1 : ∀ w, (neqCd (.agg #[.int .i64 c.card.frm, .int .i64 c.card.to_, .int .i64 c.card.budget, .int .i64 c.card.fan]) (.agg #[.int .i64 0, .int .i64 0, .int .i64 0, .int .i64 0])).run Try.prog w = .ok (.bool true) w := fun w => by rw [zr.out w, decide_eq_false hz]; rfl
                        have NY : Hid (c.card.rt = true → c.bad = false) := Lib.hid (fun hc => Ct.bad_no.2 ⟨⟨by omega, by omega⟩, ⟨by omega, by omega⟩, ⟨by omega, by omega⟩, (fun _ => by omega), by rw [HL.out]; omega, Or.inr (Cd.rt_iff.1 hc)⟩)
                        have NN : Hid (c.card.rt = false → c.bad = true) := Lib.hid (fun hc => Ct.bad_yes.2 (fun r => by rcases r.k with e | e; exact hz e; exact Cd.rt_no.1 hc e))
                        clear h0 h1 h2 h3 h4 h5 h6 h7 hz
                        go_wp2_with fail
                        refine (RC.out w1).mono ?_
                        rintro e w2 ⟨rfl, b2⟩
                        have NB : Hid (c.bad = !c.card.rt) := Lib.hid (by cases hc : c.card.rt; exact NN.out hc; exact NY.out hc)
                        have L2 := Lib.hid (L1.out.below b2)
                        have B2 := Lib.hid b2
                        clear b2 NY NN
                        generalize c.card.rt = q at *
                        go_wp2
                        go_meet
                        case rel => exact ⟨by rw [NB.out], L2.out, B2.out⟩
    · by_cases h0 : c.gen < 0
      · have d0_0 : decide (c.gen < 0) = true := by simpa using h0
        have d0_1 : decide (0 ≤ c.gen) = false := by simpa using h0
        have NR : Hid (c.bad = true) := Lib.hid (Ct.bad_yes.2 (fun r => by have := r.g; have := r.s; have := r.t; have := r.e; have := r.m; have := HL.out; first | omega | (have := r.e he; omega)))
        clear h0
        rw [he] at c3
        go_wp2
        go_meet
        case rel => exact ⟨by rw [NR.out], L1.out, Below.refl _ _⟩
      · have d0_0 : decide (c.gen < 0) = false := by simpa using h0
        have d0_1 : decide (0 ≤ c.gen) = true := by simpa using h0
        by_cases h1 : 1000 < c.gen
        · have d1_0 : decide (1000 < c.gen) = true := by simpa using h1
          have d1_1 : decide (c.gen > 1000) = true := by simpa using h1
          have d1_2 : decide (c.gen ≤ 1000) = false := by simpa using h1
          have NR : Hid (c.bad = true) := Lib.hid (Ct.bad_yes.2 (fun r => by have := r.g; have := r.s; have := r.t; have := r.e; have := r.m; have := HL.out; first | omega | (have := r.e he; omega)))
          clear h0 h1
          rw [he] at c3
          go_wp2
          go_meet
          case rel => exact ⟨by rw [NR.out], L1.out, Below.refl _ _⟩
        · have d1_0 : decide (1000 < c.gen) = false := by simpa using h1
          have d1_1 : decide (c.gen > 1000) = false := by simpa using h1
          have d1_2 : decide (c.gen ≤ 1000) = true := by simpa using h1
          by_cases h2 : c.step < 0
          · have d2_0 : decide (c.step < 0) = true := by simpa using h2
            have d2_1 : decide (0 ≤ c.step) = false := by simpa using h2
            have NR : Hid (c.bad = true) := Lib.hid (Ct.bad_yes.2 (fun r => by have := r.g; have := r.s; have := r.t; have := r.e; have := r.m; have := HL.out; first | omega | (have := r.e he; omega)))
            clear h0 h1 h2
            rw [he] at c3
            go_wp2
            go_meet
            case rel => exact ⟨by rw [NR.out], L1.out, Below.refl _ _⟩
          · have d2_0 : decide (c.step < 0) = false := by simpa using h2
            have d2_1 : decide (0 ≤ c.step) = true := by simpa using h2
            by_cases h3 : 20 < c.step
            · have d3_0 : decide (20 < c.step) = true := by simpa using h3
              have d3_1 : decide (c.step > 20) = true := by simpa using h3
              have d3_2 : decide (c.step ≤ 20) = false := by simpa using h3
              have NR : Hid (c.bad = true) := Lib.hid (Ct.bad_yes.2 (fun r => by have := r.g; have := r.s; have := r.t; have := r.e; have := r.m; have := HL.out; first | omega | (have := r.e he; omega)))
              clear h0 h1 h2 h3
              rw [he] at c3
              go_wp2
              go_meet
              case rel => exact ⟨by rw [NR.out], L1.out, Below.refl _ _⟩
            · have d3_0 : decide (20 < c.step) = false := by simpa using h3
              have d3_1 : decide (c.step > 20) = false := by simpa using h3
              have d3_2 : decide (c.step ≤ 20) = true := by simpa using h3
              by_cases h4 : c.status < 0
              · have d4_0 : decide (c.status < 0) = true := by simpa using h4
                have d4_1 : decide (0 ≤ c.status) = false := by simpa using h4
                have NR : Hid (c.bad = true) := Lib.hid (Ct.bad_yes.2 (fun r => by have := r.g; have := r.s; have := r.t; have := r.e; have := r.m; have := HL.out; first | omega | (have := r.e he; omega)))
                clear h0 h1 h2 h3 h4
                rw [he] at c3
                go_wp2
                go_meet
                case rel => exact ⟨by rw [NR.out], L1.out, Below.refl _ _⟩
              · have d4_0 : decide (c.status < 0) = false := by simpa using h4
                have d4_1 : decide (0 ≤ c.status) = true := by simpa using h4
                by_cases h5 : 7 < c.status
                · have d5_0 : decide (7 < c.status) = true := by simpa using h5
                  have d5_1 : decide (c.status > 7) = true := by simpa using h5
                  have d5_2 : decide (c.status ≤ 7) = false := by simpa using h5
                  have NR : Hid (c.bad = true) := Lib.hid (Ct.bad_yes.2 (fun r => by have := r.g; have := r.s; have := r.t; have := r.e; have := r.m; have := HL.out; first | omega | (have := r.e he; omega)))
                  clear h0 h1 h2 h3 h4 h5
                  rw [he] at c3
                  go_wp2
                  go_meet
                  case rel => exact ⟨by rw [NR.out], L1.out, Below.refl _ _⟩
                · have d5_0 : decide (7 < c.status) = false := by simpa using h5
                  have d5_1 : decide (c.status > 7) = false := by simpa using h5
                  have d5_2 : decide (c.status ≤ 7) = true := by simpa using h5
                  by_cases h6 : 14 < n
                  · have d6_0 : decide (14 < (n : Int)) = true := by simp; omega
                    have d6_1 : decide ((n : Int) > 14) = true := by simp; omega
                    have d6_2 : decide ((n : Int) ≤ 14) = false := by simp; omega
                    have d6_3 : decide (14 < n) = true := by simpa using h6
                    have d6_4 : decide (n ≤ 14) = false := by simpa using h6
                    have NR : Hid (c.bad = true) := Lib.hid (Ct.bad_yes.2 (fun r => by have := r.g; have := r.s; have := r.t; have := r.e; have := r.m; have := HL.out; first | omega | (have := r.e he; omega)))
                    clear h0 h1 h2 h3 h4 h5 h6
                    rw [he] at c3
                    go_wp2
                    go_meet
                    case rel => exact ⟨by rw [NR.out], L1.out, Below.refl _ _⟩
                  · have d6_0 : decide (14 < (n : Int)) = false := by simp; omega
                    have d6_1 : decide ((n : Int) > 14) = false := by simp; omega
                    have d6_2 : decide ((n : Int) ≤ 14) = true := by simp; omega
                    have d6_3 : decide (14 < n) = false := by simpa using h6
                    have d6_4 : decide (n ≤ 14) = true := by simpa using h6
                    rw [he] at c3
                    by_cases hz : c.card = Cd.zero
                    · have eq1 : ∀ w, (neqCd (.agg #[.int .i64 c.card.frm, .int .i64 c.card.to_, .int .i64 c.card.budget, .int .i64 c.card.fan]) (.agg #[.int .i64 0, .int .i64 0, .int .i64 0, .int .i64 0])).run Try.prog w = .ok (.bool false) w := fun w => by rw [zr.out w, decide_eq_true hz]; rfl
                      have NR : Hid (c.bad = false) := Lib.hid (Ct.bad_no.2 ⟨⟨by omega, by omega⟩, ⟨by omega, by omega⟩, ⟨by omega, by omega⟩, (fun e => by rw [he] at e; cases e), by rw [HL.out]; omega, Or.inl hz⟩)
                      clear h0 h1 h2 h3 h4 h5 h6 hz
                      go_wp2
                      go_meet
                      case rel => exact ⟨by rw [NR.out], L1.out, Below.refl _ _⟩
                    · have eq1 : ∀ w, (neqCd (.agg #[.int .i64 c.card.frm, .int .i64 c.card.to_, .int .i64 c.card.budget, .int .i64 c.card.fan]) (.agg #[.int .i64 0, .int .i64 0, .int .i64 0, .int .i64 0])).run Try.prog w = .ok (.bool true) w := fun w => by rw [zr.out w, decide_eq_false hz]; rfl
                      have NY : Hid (c.card.rt = true → c.bad = false) := Lib.hid (fun hc => Ct.bad_no.2 ⟨⟨by omega, by omega⟩, ⟨by omega, by omega⟩, ⟨by omega, by omega⟩, (fun e => by rw [he] at e; cases e), by rw [HL.out]; omega, Or.inr (Cd.rt_iff.1 hc)⟩)
                      have NN : Hid (c.card.rt = false → c.bad = true) := Lib.hid (fun hc => Ct.bad_yes.2 (fun r => by rcases r.k with e | e; exact hz e; exact Cd.rt_no.1 hc e))
                      clear h0 h1 h2 h3 h4 h5 h6 hz
                      go_wp2_with fail
                      refine (RC.out w1).mono ?_
                      rintro e w2 ⟨rfl, b2⟩
                      have NB : Hid (c.bad = !c.card.rt) := Lib.hid (by cases hc : c.card.rt; exact NN.out hc; exact NY.out hc)
                      have L2 := Lib.hid (L1.out.below b2)
                      have B2 := Lib.hid b2
                      clear b2 NY NN
                      generalize c.card.rt = q at *
                      go_wp2
                      go_meet
                      case rel => exact ⟨by rw [NB.out], L2.out, B2.out⟩
  case rest =>
    obtain ⟨rfl, l2, b2⟩ := hcut
    have L2 := Lib.hid l2
    have R2 := Lib.hid (R1.out.below (b2.mono hN1))
    have B2 := Lib.hid (bstep B1.out b2)
    have hN2 : N ≤ wc.heap.size := by have := b2.size; omega
    clear b2 l2 L1 R1 B1 c0 c1 c2 c3 c4 c5 c6 c7 c8
    cases hbad : c.bad
    · have FR := Lib.hid (Ct.bad_no.1 hbad)
      obtain ⟨c0, c1, c2, c3, c4, c5, c6, c7, c8⟩ := L2.out.cells
      clear hbad c0 c1 c2 c3 c4 c5 c6 c7
      go_wp2
      go_loopw [3, 4, 64] (fun _ _ iv wr => ∃ i : Nat, i ≤ n ∧ iv = .int .i64 i ∧ (∀ j, j < i → fileOk c.files j) ∧ Below wc.heap.size wc wr) (fun _ _ iv _ => n - (intOf iv).toNat)
      case atStart => exact ⟨0, Nat.zero_le _, rfl, fun j hj => by omega, Below.refl _ _⟩
      case round =>
        obtain ⟨i, hi, rfl, hall, bw⟩ := hrel
        have HALL := Lib.hid hall
        clear hall
        by_cases hlt : i < n
        · have i1 : decide ((i : Int) < (n : Int)) = true := by rw [decide_eq_true_eq]; omega
          have R3 := Lib.hid (R2.out.below (bw.mono hN2))
          have L3 := Lib.hid (L2.out.below bw)
          have hb3 : b < wr.heap.size := L3.out.lt
          have hN3 : N ≤ wr.heap.size := by have := bw.size; omega
          obtain ⟨fb, fo, rfl, hfb, z0, z1, z2, z3, fok⟩ := R3.out i (by rw [HL.out]; exact hlt)
          obtain ⟨⟨n0, n1⟩, ⟨f0, f1⟩, ⟨x0, x1⟩, ⟨k0, k1⟩⟩ := id fok
          have BW := Lib.hid bw
          clear bw fok c8
          have FI : Hid (flAt c.files i = ⟨(flAt c.files i).name, (flAt c.files i).file, (flAt c.files i).first, (flAt c.files i).blocks⟩) := Lib.hid rfl
          obtain ⟨nm, hnm⟩ : ∃ nm, (flAt c.files i).name = nm := ⟨_, rfl⟩
          obtain ⟨fl, hfl⟩ : ∃ nm, (flAt c.files i).file = nm := ⟨_, rfl⟩
          obtain ⟨fx, hfx⟩ : ∃ nm, (flAt c.files i).first = nm := ⟨_, rfl⟩
          obtain ⟨fk, hfk⟩ : ∃ nm, (flAt c.files i).blocks = nm := ⟨_, rfl⟩
          rw [hnm] at z0 n0 n1; rw [hfl] at z1 f0 f1; rw [hfx] at z2 x0 x1; rw [hfk] at z3 k0 k1
          have HNM := Lib.hid hnm; have HFL := Lib.hid hfl; have HFX := Lib.hid hfx; have HFK := Lib.hid hfk
          clear hnm hfl hfx hfk
          go_upto_region 6 with fail
          obtain ⟨W, hW⟩ : ∃ W, W = wr.alloc (.cells #[.int .i64 nm, .int .i64 fl, .int .i64 fx, .int .i64 fk] 25) := ⟨_, rfl⟩
          rw [← hW]
          obtain ⟨g, hg⟩ : ∃ g, g = wr.heap.size := ⟨_, rfl⟩
          rw [← hg]
          have y0 : W.cell? ⟨g, 0, none⟩ = some (.int .i64 nm) := by rw [hW, hg]; exact cell_of_row _ _ _ _ _ _ (heap_alloc_new wr _)
          have y1 : W.cell? ⟨g, 1, none⟩ = some (.int .i64 fl) := by rw [hW, hg]; exact cell_of_row _ _ _ _ _ _ (heap_alloc_new wr _)
          have y2 : W.cell? ⟨g, 2, none⟩ = some (.int .i64 fx) := by rw [hW, hg]; exact cell_of_row _ _ _ _ _ _ (heap_alloc_new wr _)
          have y3 : W.cell? ⟨g, 3, none⟩ = some (.int .i64 fk) := by rw [hW, hg]; exact cell_of_row _ _ _ _ _ _ (heap_alloc_new wr _)
          have hbW : Below wr.heap.size wr W := by rw [hW]; exact (Below.refl _ _).alloc (Nat.le_refl _) _
          have y8 : W.cell? ⟨b, 8, none⟩ = some (.slice (some ⟨fb, fo, none⟩) n cap) := by rw [hbW.cell (p := ⟨b, 8, none⟩) hb3]; exact L3.out.cells.2.2.2.2.2.2.2.2
          have R4 := Lib.hid (R3.out.below (hbW.mono hN3))
          have BW2 := Lib.hid (bstep BW.out hbW)
          clear hW hg hbW z0 z1 z2 z3
          go_cut [131] (fun v wd => v = .bool (fileBad c.files i) ∧ Below wc.heap.size wc wd)
          case first =>
            rcases i with _ | j
            · have p0 : decide (((0 : Nat) : Int) > 0) = false := by simp
              have p1 : decide ((0 : Int) < ((0 : Nat) : Int)) = false := by simp
              by_cases h0 : nm < 1
              · have d0_0 : decide (nm < 1) = true := by simpa using h0
                have d0_1 : decide (1 ≤ nm) = false := by simpa using h0
                have NR : Hid (fileBad c.files 0 = true) := Lib.hid (fileBad_yes.2 (fun r => by have q1 := r.f.n; have q2 := r.f.f; have q3 := r.f.b; have q4 := r.f.x; have q5 := r.f.z; have r1 := HNM.out; have r2 := HFL.out; have r3 := HFX.out; have r4 := HFK.out; omega))
                clear h0
                go_quiet (fail)
                go_wp2
                go_meet
                case rel => exact ⟨by rw [NR.out], below_drewN BW2.out _⟩
              · have d0_0 : decide (nm < 1) = false := by simpa using h0
                have d0_1 : decide (1 ≤ nm) = true := by simpa using h0
                by_cases h1 : 255 < nm
                · have d1_0 : decide (255 < nm) = true := by simpa using h1
                  have d1_1 : decide (nm > 255) = true := by simpa using h1
                  have d1_2 : decide (nm ≤ 255) = false := by simpa using h1
                  have NR : Hid (fileBad c.files 0 = true) := Lib.hid (fileBad_yes.2 (fun r => by have q1 := r.f.n; have q2 := r.f.f; have q3 := r.f.b; have q4 := r.f.x; have q5 := r.f.z; have r1 := HNM.out; have r2 := HFL.out; have r3 := HFX.out; have r4 := HFK.out; omega))
                  clear h0 h1
                  go_quiet (fail)
                  go_wp2
                  go_meet
                  case rel => exact ⟨by rw [NR.out], below_drewN BW2.out _⟩
                · have d1_0 : decide (255 < nm) = false := by simpa using h1
                  have d1_1 : decide (nm > 255) = false := by simpa using h1
                  have d1_2 : decide (nm ≤ 255) = true := by simpa using h1
                  by_cases h2 : fl < 1
                  · have d2_0 : decide (fl < 1) = true := by simpa using h2
                    have d2_1 : decide (1 ≤ fl) = false := by simpa using h2
                    have NR : Hid (fileBad c.files 0 = true) := Lib.hid (fileBad_yes.2 (fun r => by have q1 := r.f.n; have q2 := r.f.f; have q3 := r.f.b; have q4 := r.f.x; have q5 := r.f.z; have r1 := HNM.out; have r2 := HFL.out; have r3 := HFX.out; have r4 := HFK.out; omega))
                    clear h0 h1 h2
                    go_quiet (fail)
                    go_wp2
                    go_meet
                    case rel => exact ⟨by rw [NR.out], below_drewN BW2.out _⟩
                  · have d2_0 : decide (fl < 1) = false := by simpa using h2
                    have d2_1 : decide (1 ≤ fl) = true := by simpa using h2
                    by_cases h3 : 65536 ≤ fl
                    · have d3_0 : decide (65536 ≤ fl) = true := by simpa using h3
                      have d3_1 : decide (fl ≥ 65536) = true := by simpa using h3
                      have d3_2 : decide (fl < 65536) = false := by simpa using h3
                      have NR : Hid (fileBad c.files 0 = true) := Lib.hid (fileBad_yes.2 (fun r => by have q1 := r.f.n; have q2 := r.f.f; have q3 := r.f.b; have q4 := r.f.x; have q5 := r.f.z; have r1 := HNM.out; have r2 := HFL.out; have r3 := HFX.out; have r4 := HFK.out; omega))
                      clear h0 h1 h2 h3
                      go_quiet (fail)
                      go_wp2
                      go_meet
                      case rel => exact ⟨by rw [NR.out], below_drewN BW2.out _⟩
                    · have d3_0 : decide (65536 ≤ fl) = false := by simpa using h3
                      have d3_1 : decide (fl ≥ 65536) = false := by simpa using h3
                      have d3_2 : decide (fl < 65536) = true := by simpa using h3
                      by_cases h4 : fk < 0
                      · have d4_0 : decide (fk < 0) = true := by simpa using h4
                        have d4_1 : decide (0 ≤ fk) = false := by simpa using h4
                        have NR : Hid (fileBad c.files 0 = true) := Lib.hid (fileBad_yes.2 (fun r => by have q1 := r.f.n; have q2 := r.f.f; have q3 := r.f.b; have q4 := r.f.x; have q5 := r.f.z; have r1 := HNM.out; have r2 := HFL.out; have r3 := HFX.out; have r4 := HFK.out; omega))
                        clear h0 h1 h2 h3 h4
                        go_quiet (fail)
                        go_wp2
                        go_meet
                        case rel => exact ⟨by rw [NR.out], below_drewN BW2.out _⟩
                      · have d4_0 : decide (fk < 0) = false := by simpa using h4
                        have d4_1 : decide (0 ≤ fk) = true := by simpa using h4
                        by_cases h5 : 512 < fk
                        · have d5_0 : decide (512 < fk) = true := by simpa using h5
                          have d5_1 : decide (fk > 512) = true := by simpa using h5
                          have d5_2 : decide (fk ≤ 512) = false := by simpa using h5
                          have NR : Hid (fileBad c.files 0 = true) := Lib.hid (fileBad_yes.2 (fun r => by have q1 := r.f.n; have q2 := r.f.f; have q3 := r.f.b; have q4 := r.f.x; have q5 := r.f.z; have r1 := HNM.out; have r2 := HFL.out; have r3 := HFX.out; have r4 := HFK.out; omega))
                          clear h0 h1 h2 h3 h4 h5
                          go_quiet (fail)
                          go_wp2
                          go_meet
                          case rel => exact ⟨by rw [NR.out], below_drewN BW2.out _⟩
                        · have d5_0 : decide (512 < fk) = false := by simpa using h5
                          have d5_1 : decide (fk > 512) = false := by simpa using h5
                          have d5_2 : decide (fk ≤ 512) = true := by simpa using h5
                          by_cases h6 : fx < 0
                          · have d6_0 : decide (fx < 0) = true := by simpa using h6
                            have d6_1 : decide (0 ≤ fx) = false := by simpa using h6
                            have NR : Hid (fileBad c.files 0 = true) := Lib.hid (fileBad_yes.2 (fun r => by have q1 := r.f.n; have q2 := r.f.f; have q3 := r.f.b; have q4 := r.f.x; have q5 := r.f.z; have r1 := HNM.out; have r2 := HFL.out; have r3 := HFX.out; have r4 := HFK.out; omega))
                            clear h0 h1 h2 h3 h4 h5 h6
                            go_quiet (fail)
                            go_wp2
                            go_meet
                            case rel => exact ⟨by rw [NR.out], below_drewN BW2.out _⟩
                          · have d6_0 : decide (fx < 0) = false := by simpa using h6
                            have d6_1 : decide (0 ≤ fx) = true := by simpa using h6
                            by_cases h7 : 65536 ≤ fx
                            · have d7_0 : decide (65536 ≤ fx) = true := by simpa using h7
                              have d7_1 : decide (fx ≥ 65536) = true := by simpa using h7
                              have d7_2 : decide (fx < 65536) = false := by simpa using h7
                              have NR : Hid (fileBad c.files 0 = true) := Lib.hid (fileBad_yes.2 (fun r => by have q1 := r.f.n; have q2 := r.f.f; have q3 := r.f.b; have q4 := r.f.x; have q5 := r.f.z; have r1 := HNM.out; have r2 := HFL.out; have r3 := HFX.out; have r4 := HFK.out; omega))
                              clear h0 h1 h2 h3 h4 h5 h6 h7
                              go_quiet (fail)
                              go_wp2
                              go_meet
                              case rel => exact ⟨by rw [NR.out], below_drewN BW2.out _⟩
                            · have d7_0 : decide (65536 ≤ fx) = false := by simpa using h7
                              have d7_1 : decide (fx ≥ 65536) = false := by simpa using h7
                              have d7_2 : decide (fx < 65536) = true := by simpa using h7
                              by_cases zk : fk = 0
                              · by_cases zx : fx = 0
                                · have e1 : (fk == 0) = true := by simpa using zk
                                  have e2 : (fx == 0) = true := by simpa using zx
                                  have NR : Hid (fileBad c.files 0 = false) := Lib.hid (fileBad_no.2 ⟨⟨by have := HNM.out; omega, by have := HFL.out; omega, by have := HFK.out; omega, by have := HFX.out; omega, by have := HFX.out; have := HFK.out; omega⟩, fun e => by omega⟩)
                                  clear h0 h1 h2 h3 h4 h5 h6 h7 zk zx
                                  go_quiet (fail)
                                  go_wp2
                                  go_meet
                                  case rel => exact ⟨by rw [NR.out], below_drewN BW2.out _⟩
                                · have e1 : (fk == 0) = true := by simpa using zk
                                  have e2 : (fx == 0) = false := by simpa using zx
                                  have NR : Hid (fileBad c.files 0 = true) := Lib.hid (fileBad_yes.2 (fun r => by have q5 := r.f.z; have r3 := HFX.out; have r4 := HFK.out; omega))
                                  clear h0 h1 h2 h3 h4 h5 h6 h7 zk zx
                                  go_quiet (fail)
                                  go_wp2
                                  go_meet
                                  case rel => exact ⟨by rw [NR.out], below_drewN BW2.out _⟩
                              · by_cases zx : fx = 0
                                · have e1 : (fk == 0) = false := by simpa using zk
                                  have e2 : (fx == 0) = true := by simpa using zx
                                  have NR : Hid (fileBad c.files 0 = true) := Lib.hid (fileBad_yes.2 (fun r => by have q5 := r.f.z; have r3 := HFX.out; have r4 := HFK.out; omega))
                                  clear h0 h1 h2 h3 h4 h5 h6 h7 zk zx
                                  go_quiet (fail)
                                  go_wp2
                                  go_meet
                                  case rel => exact ⟨by rw [NR.out], below_drewN BW2.out _⟩
                                · have e1 : (fk == 0) = false := by simpa using zk
                                  have e2 : (fx == 0) = false := by simpa using zx
                                  have NR : Hid (fileBad c.files 0 = false) := Lib.hid (fileBad_no.2 ⟨⟨by have := HNM.out; omega, by have := HFL.out; omega, by have := HFK.out; omega, by have := HFX.out; omega, by have := HFX.out; have := HFK.out; omega⟩, fun e => by omega⟩)
                                  clear h0 h1 h2 h3 h4 h5 h6 h7 zk zx
                                  go_quiet (fail)
                                  go_wp2
                                  go_meet
                                  case rel => exact ⟨by rw [NR.out], below_drewN BW2.out _⟩
            · obtain ⟨b', o', e, hpb, q0, _, _, _, pok⟩ := R4.out j (by rw [HL.out]; omega)
              injection e with e; injection e with e1 e2; subst e1 e2
              obtain ⟨⟨pn0, pn1⟩, _, _, _⟩ := pok
              obtain ⟨pn, hpn⟩ : ∃ pn, (flAt c.files j).name = pn := ⟨_, rfl⟩
              rw [hpn] at q0 pn0 pn1
              have HPN := Lib.hid hpn
              clear hpn
              have p0 : decide (((j + 1 : Nat) : Int) > 0) = true := by rw [decide_eq_true_eq]; omega
              have p1 : decide ((0 : Int) < ((j + 1 : Nat) : Int)) = true := by rw [decide_eq_true_eq]; omega
              have p2 : IntKind.i64.wrap (((j + 1 : Nat) : Int) - 1) = (j : Int) := by rw [IntKind.wrap_i64]; omega
              have p3 : (j : Int) < (n : Int) := by omega
              have p4 : (0 : Int) ≤ (j : Int) := by omega
              by_cases h0 : nm < 1
              · have d0_0 : decide (nm < 1) = true := by simpa using h0
                have d0_1 : decide (1 ≤ nm) = false := by simpa using h0
                have NR : Hid (fileBad c.files (j + 1) = true) := Lib.hid (fileBad_yes.2 (fun r => by have q1 := r.f.n; have q2 := r.f.f; have q3 := r.f.b; have q4 := r.f.x; have q5 := r.f.z; have q6 := r.r (by omega); rw [Nat.add_sub_cancel] at q6; have r5 := HPN.out; have r1 := HNM.out; have r2 := HFL.out; have r3 := HFX.out; have r4 := HFK.out; omega))
                clear h0
                go_quiet (fail)
                go_wp2
                go_meet
                case rel => exact ⟨by rw [NR.out], below_drewN BW2.out _⟩
              · have d0_0 : decide (nm < 1) = false := by simpa using h0
                have d0_1 : decide (1 ≤ nm) = true := by simpa using h0
                by_cases h1 : 255 < nm
                · have d1_0 : decide (255 < nm) = true := by simpa using h1
                  have d1_1 : decide (nm > 255) = true := by simpa using h1
                  have d1_2 : decide (nm ≤ 255) = false := by simpa using h1
                  have NR : Hid (fileBad c.files (j + 1) = true) := Lib.hid (fileBad_yes.2 (fun r => by have q1 := r.f.n; have q2 := r.f.f; have q3 := r.f.b; have q4 := r.f.x; have q5 := r.f.z; have q6 := r.r (by omega); rw [Nat.add_sub_cancel] at q6; have r5 := HPN.out; have r1 := HNM.out; have r2 := HFL.out; have r3 := HFX.out; have r4 := HFK.out; omega))
                  clear h0 h1
                  go_quiet (fail)
                  go_wp2
                  go_meet
                  case rel => exact ⟨by rw [NR.out], below_drewN BW2.out _⟩
                · have d1_0 : decide (255 < nm) = false := by simpa using h1
                  have d1_1 : decide (nm > 255) = false := by simpa using h1
                  have d1_2 : decide (nm ≤ 255) = true := by simpa using h1
                  by_cases h2 : nm ≤ pn
                  · have d2_0 : decide (nm ≤ pn) = true := by simpa using h2
                    have d2_1 : decide (pn ≥ nm) = true := by simpa using h2
                    have d2_2 : decide (pn < nm) = false := by simpa using h2
                    have NR : Hid (fileBad c.files (j + 1) = true) := Lib.hid (fileBad_yes.2 (fun r => by have q1 := r.f.n; have q2 := r.f.f; have q3 := r.f.b; have q4 := r.f.x; have q5 := r.f.z; have q6 := r.r (by omega); rw [Nat.add_sub_cancel] at q6; have r5 := HPN.out; have r1 := HNM.out; have r2 := HFL.out; have r3 := HFX.out; have r4 := HFK.out; omega))
                    clear h0 h1 h2
                    go_quiet (fail)
                    go_wp2
                    go_meet
                    case rel => exact ⟨by rw [NR.out], below_drewN BW2.out _⟩
                  · have d2_0 : decide (nm ≤ pn) = false := by simpa using h2
                    have d2_1 : decide (pn ≥ nm) = false := by simpa using h2
                    have d2_2 : decide (pn < nm) = true := by simpa using h2
                    by_cases h3 : fl < 1
                    · have d3_0 : decide (fl < 1) = true := by simpa using h3
                      have d3_1 : decide (1 ≤ fl) = false := by simpa using h3
                      have NR : Hid (fileBad c.files (j + 1) = true) := Lib.hid (fileBad_yes.2 (fun r => by have q1 := r.f.n; have q2 := r.f.f; have q3 := r.f.b; have q4 := r.f.x; have q5 := r.f.z; have q6 := r.r (by omega); rw [Nat.add_sub_cancel] at q6; have r5 := HPN.out; have r1 := HNM.out; have r2 := HFL.out; have r3 := HFX.out; have r4 := HFK.out; omega))
                      clear h0 h1 h2 h3
                      go_quiet (fail)
                      go_wp2
                      go_meet
                      case rel => exact ⟨by rw [NR.out], below_drewN BW2.out _⟩
                    · have d3_0 : decide (fl < 1) = false := by simpa using h3
                      have d3_1 : decide (1 ≤ fl) = true := by simpa using h3
                      by_cases h4 : 65536 ≤ fl
                      · have d4_0 : decide (65536 ≤ fl) = true := by simpa using h4
                        have d4_1 : decide (fl ≥ 65536) = true := by simpa using h4
                        have d4_2 : decide (fl < 65536) = false := by simpa using h4
                        have NR : Hid (fileBad c.files (j + 1) = true) := Lib.hid (fileBad_yes.2 (fun r => by have q1 := r.f.n; have q2 := r.f.f; have q3 := r.f.b; have q4 := r.f.x; have q5 := r.f.z; have q6 := r.r (by omega); rw [Nat.add_sub_cancel] at q6; have r5 := HPN.out; have r1 := HNM.out; have r2 := HFL.out; have r3 := HFX.out; have r4 := HFK.out; omega))
                        clear h0 h1 h2 h3 h4
                        go_quiet (fail)
                        go_wp2
                        go_meet
                        case rel => exact ⟨by rw [NR.out], below_drewN BW2.out _⟩
                      · have d4_0 : decide (65536 ≤ fl) = false := by simpa using h4
                        have d4_1 : decide (fl ≥ 65536) = false := by simpa using h4
                        have d4_2 : decide (fl < 65536) = true := by simpa using h4
                        by_cases h5 : fk < 0
                        · have d5_0 : decide (fk < 0) = true := by simpa using h5
                          have d5_1 : decide (0 ≤ fk) = false := by simpa using h5
                          have NR : Hid (fileBad c.files (j + 1) = true) := Lib.hid (fileBad_yes.2 (fun r => by have q1 := r.f.n; have q2 := r.f.f; have q3 := r.f.b; have q4 := r.f.x; have q5 := r.f.z; have q6 := r.r (by omega); rw [Nat.add_sub_cancel] at q6; have r5 := HPN.out; have r1 := HNM.out; have r2 := HFL.out; have r3 := HFX.out; have r4 := HFK.out; omega))
                          clear h0 h1 h2 h3 h4 h5
                          go_quiet (fail)
                          go_wp2
                          go_meet
                          case rel => exact ⟨by rw [NR.out], below_drewN BW2.out _⟩
                        · have d5_0 : decide (fk < 0) = false := by simpa using h5
                          have d5_1 : decide (0 ≤ fk) = true := by simpa using h5
                          by_cases h6 : 512 < fk
                          · have d6_0 : decide (512 < fk) = true := by simpa using h6
                            have d6_1 : decide (fk > 512) = true := by simpa using h6
                            have d6_2 : decide (fk ≤ 512) = false := by simpa using h6
                            have NR : Hid (fileBad c.files (j + 1) = true) := Lib.hid (fileBad_yes.2 (fun r => by have q1 := r.f.n; have q2 := r.f.f; have q3 := r.f.b; have q4 := r.f.x; have q5 := r.f.z; have q6 := r.r (by omega); rw [Nat.add_sub_cancel] at q6; have r5 := HPN.out; have r1 := HNM.out; have r2 := HFL.out; have r3 := HFX.out; have r4 := HFK.out; omega))
                            clear h0 h1 h2 h3 h4 h5 h6
                            go_quiet (fail)
                            go_wp2
                            go_meet
                            case rel => exact ⟨by rw [NR.out], below_drewN BW2.out _⟩
                          · have d6_0 : decide (512 < fk) = false := by simpa using h6
                            have d6_1 : decide (fk > 512) = false := by simpa using h6
                            have d6_2 : decide (fk ≤ 512) = true := by simpa using h6
                            by_cases h7 : fx < 0
                            · have d7_0 : decide (fx < 0) = true := by simpa using h7
                              have d7_1 : decide (0 ≤ fx) = false := by simpa using h7
                              have NR : Hid (fileBad c.files (j + 1) = true) := Lib.hid (fileBad_yes.2 (fun r => by have q1 := r.f.n; have q2 := r.f.f; have q3 := r.f.b; have q4 := r.f.x; have q5 := r.f.z; have q6 := r.r (by omega); rw [Nat.add_sub_cancel] at q6; have r5 := HPN.out; have r1 := HNM.out; have r2 := HFL.out; have r3 := HFX.out; have r4 := HFK.out; omega))
                              clear h0 h1 h2 h3 h4 h5 h6 h7
                              go_quiet (fail)
                              go_wp2
                              go_meet
                              case rel => exact ⟨by rw [NR.out], below_drewN BW2.out _⟩
                            · have d7_0 : decide (fx < 0) = false := by simpa using h7
                              have d7_1 : decide (0 ≤ fx) = true := by simpa using h7
                              by_cases h8 : 65536 ≤ fx
                              · have d8_0 : decide (65536 ≤ fx) = true := by simpa using h8
                                have d8_1 : decide (fx ≥ 65536) = true := by simpa using h8
                                have d8_2 : decide (fx < 65536) = false := by simpa using h8
                                have NR : Hid (fileBad c.files (j + 1) = true) := Lib.hid (fileBad_yes.2 (fun r => by have q1 := r.f.n; have q2 := r.f.f; have q3 := r.f.b; have q4 := r.f.x; have q5 := r.f.z; have q6 := r.r (by omega); rw [Nat.add_sub_cancel] at q6; have r5 := HPN.out; have r1 := HNM.out; have r2 := HFL.out; have r3 := HFX.out; have r4 := HFK.out; omega))
                                clear h0 h1 h2 h3 h4 h5 h6 h7 h8
                                go_quiet (fail)
                                go_wp2
                                go_meet
                                case rel => exact ⟨by rw [NR.out], below_drewN BW2.out _⟩
                              · have d8_0 : decide (65536 ≤ fx) = false := by simpa using h8
                                have d8_1 : decide (fx ≥ 65536) = false := by simpa using h8
                                have d8_2 : decide (fx < 65536) = true := by simpa using h8
                                by_cases zk : fk = 0
                                · by_cases zx : fx = 0
                                  · have e1 : (fk == 0) = true := by simpa using zk
                                    have e2 : (fx == 0) = true := by simpa using zx
                                    have NR : Hid (fileBad c.files (j + 1) = false) := Lib.hid (fileBad_no.2 ⟨⟨by have := HNM.out; omega, by have := HFL.out; omega, by have := HFK.out; omega, by have := HFX.out; omega, by have := HFX.out; have := HFK.out; omega⟩, fun _ => by have := HPN.out; have := HNM.out; rw [Nat.add_sub_cancel]; omega⟩)
                                    clear h0 h1 h2 h3 h4 h5 h6 h7 h8 zk zx
                                    go_quiet (fail)
                                    go_wp2
                                    go_meet
                                    case rel => exact ⟨by rw [NR.out], below_drewN BW2.out _⟩
                                  · have e1 : (fk == 0) = true := by simpa using zk
                                    have e2 : (fx == 0) = false := by simpa using zx
                                    have NR : Hid (fileBad c.files (j + 1) = true) := Lib.hid (fileBad_yes.2 (fun r => by have q5 := r.f.z; have r3 := HFX.out; have r4 := HFK.out; omega))
                                    clear h0 h1 h2 h3 h4 h5 h6 h7 h8 zk zx
                                    go_quiet (fail)
                                    go_wp2
                                    go_meet
                                    case rel => exact ⟨by rw [NR.out], below_drewN BW2.out _⟩
                                · by_cases zx : fx = 0
                                  · have e1 : (fk == 0) = false := by simpa using zk
                                    have e2 : (fx == 0) = true := by simpa using zx
                                    have NR : Hid (fileBad c.files (j + 1) = true) := Lib.hid (fileBad_yes.2 (fun r => by have q5 := r.f.z; have r3 := HFX.out; have r4 := HFK.out; omega))
                                    clear h0 h1 h2 h3 h4 h5 h6 h7 h8 zk zx
                                    go_quiet (fail)
                                    go_wp2
                                    go_meet
                                    case rel => exact ⟨by rw [NR.out], below_drewN BW2.out _⟩
                                  · have e1 : (fk == 0) = false := by simpa using zk
                                    have e2 : (fx == 0) = false := by simpa using zx
                                    have NR : Hid (fileBad c.files (j + 1) = false) := Lib.hid (fileBad_no.2 ⟨⟨by have := HNM.out; omega, by have := HFL.out; omega, by have := HFK.out; omega, by have := HFX.out; omega, by have := HFX.out; have := HFK.out; omega⟩, fun _ => by have := HPN.out; have := HNM.out; rw [Nat.add_sub_cancel]; omega⟩)
                                    clear h0 h1 h2 h3 h4 h5 h6 h7 h8 zk zx
                                    go_quiet (fail)
                                    go_wp2
                                    go_meet
                                    case rel => exact ⟨by rw [NR.out], below_drewN BW2.out _⟩
          case rest =>
            obtain ⟨rfl, b5⟩ := hcut
            cases hbad : fileBad c.files i
            · have HN : Hid (∀ j, j < i + 1 → fileOk c.files j) := Lib.hid (fun j hj => by
                by_cases hji : j = i
                · rw [hji]; exact fileBad_no.1 hbad
                · exact HALL.out j (by omega))
              clear hbad
              go_wp2
              go_roundw
              case rel => exact ⟨i + 1, by omega, by go_num, HN.out, b5⟩
              case measure => simp [intOf]; omega
            · have NR : Hid (c.rt = false) := Lib.hid (Ct.rt_no.2 (fun r => fileBad_yes.1 hbad (file_of_right r i (by rw [HL.out]; exact hlt))))
              clear hbad
              go_wp2
              go_ret
              exact ⟨by rw [NR.out]; rfl, bstep B2.out b5⟩
        · obtain rfl : i = n := by omega
          have i1 : decide ((i : Int) < (i : Int)) = false := by simp
          have NR : Hid (c.rt = true) := Lib.hid (Ct.rt_iff.2 (right_of_front FR.out (by rw [HL.out]; exact HALL.out)))
          go_wp2
          go_ret
          exact ⟨by rw [NR.out]; rfl, bstep B2.out bw⟩
    · have NR : Hid (c.rt = false) := Lib.hid (Ct.rt_no.2 (fun r => Ct.bad_yes.1 hbad ⟨r.g, r.s, r.t, r.e, r.m, r.k⟩))
      clear hbad
      go_wp2
      go_ret
      exact ⟨by rw [NR.out]; rfl, B2.out⟩
end Go.Proofs.Ytjiigbmfbmkhjaa
