/-
  The contracts of package catalog's within, RightCard, rightFile and rightEnd: each says what the document asks; nothing that was in memory turns.
  The document's own RightCatalog (sheafref5): whether a catalog is right.
  The contracts of package catalog's rightFiles and Right: Right says whether a catalog is right; nothing that was in memory turns.
-/
import Derived.Test.YtilmicekpclmbaaZl
import Derived.WalkSpells
import Derived.WalkLawsBesides
import Derived.Deep.DeepCutAuto
import Derived.Deep.QuietTactic
import Derived.BigQuiet
import Derived.WalkSmall
import Derived.IntWalk
import Derived.Test.YtilmicekpclmbaaZn
namespace Go.Proofs.Ytilmicekpclmbaa
set_option linter.unusedVariables false
set_option linter.unusedSimpArgs false
set_option maxRecDepth 100000
open Go.RowKit

/-- Between two bounds. -/
def inB (n lo hi : Int) : Bool := decide (lo ≤ n) && decide (n ≤ hi)
theorem inB_yes {n lo hi : Int} : inB n lo hi = true ↔ lo ≤ n ∧ n ≤ hi := by unfold inB; simp
theorem inB_no {n lo hi : Int} : inB n lo hi = false ↔ ¬ (lo ≤ n ∧ n ≤ hi) := by rw [← inB_yes]; cases inB n lo hi <;> simp
theorem within_any (n lo hi : Int) (hn : I64x n) (hlo : I64x lo) (hhi : I64x hi) (w : World) :
    Calls Try.prog 44 #[.int .i64 n, .int .i64 lo, .int .i64 hi] w fun e w' => e = .returned (.bool (inB n lo hi)) ∧ w = w' := by
  obtain ⟨n0, n1⟩ := hn; obtain ⟨l0, l1⟩ := hlo; obtain ⟨h0, h1⟩ := hhi
  go_enter Try.func44, Try.ntmps44
  by_cases t1 : lo ≤ n
  · have d1 : decide (lo ≤ n) = true := by simpa using t1
    have d2 : decide (n ≥ lo) = true := by simpa using t1
    obtain ⟨q, hq⟩ : ∃ q, decide (n ≤ hi) = q := ⟨_, rfl⟩
    have E : Hid (inB n lo hi = q) := Lib.hid (by unfold inB; rw [d1, hq]; rfl)
    clear t1
    go_wp2
    go_ret
    exact ⟨by rw [E.out]; rfl, rfl⟩
  · have d1 : decide (lo ≤ n) = false := by simpa using t1
    have d2 : decide (n ≥ lo) = false := by simpa using t1
    have E : Hid (inB n lo hi = false) := Lib.hid (by unfold inB; rw [d1]; rfl)
    clear t1
    go_wp2
    go_ret
    exact ⟨by rw [E.out]; rfl, rfl⟩
theorem Cd.rt_in (c : Cd) : c.rt = (decide (0 ≤ c.frm) && (decide (c.frm ≤ c.to_) && (decide (c.to_ ≤ 1073741824) && (inB c.budget 2 64 && inB c.fan 2 16)))) := by
  unfold Cd.rt inB
  simp only [Bool.and_assoc]
set_option maxHeartbeats 1000000 in
theorem card_any (c : Cd) (h : c.Ok) (w : World) :
    Calls Try.prog 27 #[.agg (cdv c).toArray] w fun e w' => e = .returned (.bool c.rt) ∧ Below w.heap.size w w' := by
  have WB := Lib.hid (fun w0 => within_any c.budget 2 64 h.c ⟨by decide, by decide⟩ ⟨by decide, by decide⟩ w0)
  have WF := Lib.hid (fun w0 => within_any c.fan 2 16 h.d ⟨by decide, by decide⟩ ⟨by decide, by decide⟩ w0)
  obtain ⟨⟨a0, a1⟩, ⟨b0, b1⟩, ⟨c0, c1⟩, ⟨e0, e1⟩⟩ := h
  rw [Cd.rt_in]
  obtain ⟨tb, htb⟩ : ∃ q, inB c.budget 2 64 = q := ⟨_, rfl⟩
  obtain ⟨tf, htf⟩ : ∃ q, inB c.fan 2 16 = q := ⟨_, rfl⟩
  rw [htb, htf]
  rw [htb] at WB
  rw [htf] at WF
  clear htb htf
  show Calls Try.prog 27 #[.agg #[.int .i64 c.frm, .int .i64 c.to_, .int .i64 c.budget, .int .i64 c.fan]] w _
  go_enter Try.func27, Try.ntmps27
  by_cases h0 : 0 ≤ c.frm
  · have d0 : decide (0 ≤ c.frm) = true := by simpa using h0
    have d0' : decide (c.frm ≥ 0) = true := by simpa using h0
    rw [d0]
    by_cases h1 : c.frm ≤ c.to_
    · have d1 : decide (c.frm ≤ c.to_) = true := by simpa using h1
      rw [d1]
      by_cases h2 : c.to_ ≤ 1073741824
      · have d2 : decide (c.to_ ≤ 1073741824) = true := by simpa using h2
        rw [d2]
        clear h0 h1 h2
        go_wp2_with fail
        refine (WB.out _).mono ?_
        rintro e w2 ⟨rfl, rfl⟩
        cases tb
        · go_wp2
          go_ret
          exact ⟨rfl, (Below.refl _ _).alloc (Nat.le_refl _) _⟩
        · go_wp2_with fail
          refine (WF.out _).mono ?_
          rintro e w2 ⟨rfl, rfl⟩
          go_wp2
          go_ret
          exact ⟨rfl, (Below.refl _ _).alloc (Nat.le_refl _) _⟩
      · have d2 : decide (c.to_ ≤ 1073741824) = false := by simpa using h2
        rw [d2]
        clear h0 h1 h2
        go_wp2
        go_ret
        exact ⟨rfl, (Below.refl _ _).alloc (Nat.le_refl _) _⟩
    · have d1 : decide (c.frm ≤ c.to_) = false := by simpa using h1
      rw [d1]
      clear h0 h1
      go_wp2
      go_ret
      exact ⟨rfl, (Below.refl _ _).alloc (Nat.le_refl _) _⟩
  · have d0 : decide (0 ≤ c.frm) = false := by simpa using h0
    have d0' : decide (c.frm ≥ 0) = false := by simpa using h0
    rw [d0]
    clear h0
    go_wp2
    go_ret
    exact ⟨rfl, (Below.refl _ _).alloc (Nat.le_refl _) _⟩
/-- Is a file right? -/
def Fl.rt (f : Fl) : Bool := inB f.name 1 255 && (inB f.file 1 65535 && (inB f.first 0 65535 && (inB f.blocks 0 512 && (decide (f.first = 0) == decide (f.blocks = 0)))))
theorem Fl.rt_iff {f : Fl} : f.rt = true ↔ f.Right := by
  unfold Fl.rt
  simp only [Bool.and_eq_true, inB_yes, beq_iff_eq, decide_eq_decide]
  exact ⟨fun ⟨a, b, c, d, e⟩ => ⟨a, b, d, c, e.symm⟩, fun ⟨a, b, d, c, e⟩ => ⟨a, b, c, d, e.symm⟩⟩
theorem Fl.rt_no {f : Fl} : f.rt = false ↔ ¬ f.Right := by rw [← Fl.rt_iff]; cases f.rt <;> simp
set_option maxHeartbeats 1000000 in
theorem file_any (f : Fl) (h : f.Ok) (w : World) :
    Calls Try.prog 73 #[.agg #[.int .i64 f.name, .int .i64 f.file, .int .i64 f.first, .int .i64 f.blocks]] w fun e w' => e = .returned (.bool f.rt) ∧ Below w.heap.size w w' := by
  have W1 := Lib.hid (fun w0 => within_any f.name 1 255 h.a ⟨by decide, by decide⟩ ⟨by decide, by decide⟩ w0)
  have W2 := Lib.hid (fun w0 => within_any f.file 1 65535 h.b ⟨by decide, by decide⟩ ⟨by decide, by decide⟩ w0)
  have W3 := Lib.hid (fun w0 => within_any f.first 0 65535 h.c ⟨by decide, by decide⟩ ⟨by decide, by decide⟩ w0)
  have W4 := Lib.hid (fun w0 => within_any f.blocks 0 512 h.d ⟨by decide, by decide⟩ ⟨by decide, by decide⟩ w0)
  obtain ⟨⟨a0, a1⟩, ⟨b0, b1⟩, ⟨c0, c1⟩, ⟨e0, e1⟩⟩ := h
  unfold Fl.rt
  obtain ⟨t1, h1⟩ : ∃ q, inB f.name 1 255 = q := ⟨_, rfl⟩
  obtain ⟨t2, h2⟩ : ∃ q, inB f.file 1 65535 = q := ⟨_, rfl⟩
  obtain ⟨t3, h3⟩ : ∃ q, inB f.first 0 65535 = q := ⟨_, rfl⟩
  obtain ⟨t4, h4⟩ : ∃ q, inB f.blocks 0 512 = q := ⟨_, rfl⟩
  rw [h1] at W1; rw [h2] at W2; rw [h3] at W3; rw [h4] at W4
  rw [h1, h2, h3, h4]
  clear h1 h2 h3 h4
  obtain ⟨q5, h5⟩ : ∃ q, decide (f.first = 0) = q := ⟨_, rfl⟩
  obtain ⟨q6, h6⟩ : ∃ q, decide (f.blocks = 0) = q := ⟨_, rfl⟩
  have h7 : (f.first == 0) = q5 := by rw [← h5]; rfl
  have h8 : (f.blocks == 0) = q6 := by rw [← h6]; rfl
  rw [h5, h6]
  go_enter Try.func73, Try.ntmps73
  go_wp2_with fail
  refine (W1.out _).mono ?_
  rintro e w2 ⟨rfl, rfl⟩
  cases t1
  · go_wp2
    go_ret
    exact ⟨rfl, (Below.refl _ _).alloc (Nat.le_refl _) _⟩
  · go_wp2_with fail
    refine (W2.out _).mono ?_
    rintro e w2 ⟨rfl, rfl⟩
    cases t2
    · go_wp2
      go_ret
      exact ⟨rfl, (Below.refl _ _).alloc (Nat.le_refl _) _⟩
    · go_wp2_with fail
      refine (W3.out _).mono ?_
      rintro e w2 ⟨rfl, rfl⟩
      cases t3
      · go_wp2
        go_ret
        exact ⟨rfl, (Below.refl _ _).alloc (Nat.le_refl _) _⟩
      · go_wp2_with fail
        refine (W4.out _).mono ?_
        rintro e w2 ⟨rfl, rfl⟩
        cases t4
        · go_wp2
          go_ret
          exact ⟨rfl, (Below.refl _ _).alloc (Nat.le_refl _) _⟩
        · go_wp2
          go_ret
          exact ⟨rfl, (Below.refl _ _).alloc (Nat.le_refl _) _⟩
/-- Does its end agree with its status? -/
def Ct.endOk (c : Ct) : Bool := if c.ended then inB c.status 0 7 else decide (c.status = 0)
theorem Ct.endOk_iff {c : Ct} : c.endOk = true ↔ ((0 ≤ c.status ∧ c.status ≤ 7) ∧ (c.ended = false → c.status = 0)) := by
  unfold Ct.endOk
  cases he : c.ended
  · simp; omega
  · simp [inB_yes]
set_option maxHeartbeats 1000000 in
theorem end_any (c : Ct) (h : I64x c.status) (A : Option Addr) (n cap : Nat) (w : World) :
    Calls Try.prog 60 #[.agg (ctv c A n cap).toArray] w fun e w' => e = .returned (.bool c.endOk) ∧ Below w.heap.size w w' := by
  obtain ⟨h0, h1⟩ := h
  go_enter Try.func60, Try.ntmps60
  go_wp2_with (with_reducible refine box_ct rfl _ rfl c A n cap rfl ?_)
  intro w1 l1 b1 s1
  obtain ⟨b, hb⟩ : ∃ b, b = w.heap.size := ⟨_, rfl⟩
  rw [← hb] at l1 ⊢
  obtain ⟨_, _, c2, c3, _⟩ := l1.cells
  have B1 := Lib.hid b1
  clear hb b1 s1 l1
  cases he : c.ended
  · rw [he] at c3
    obtain ⟨q, hq⟩ : ∃ q, decide (c.status = 0) = q := ⟨_, rfl⟩
    have hq' : (c.status == 0) = q := by rw [← hq]; rfl
    have E : Hid (c.endOk = q) := Lib.hid (by unfold Ct.endOk; rw [he, ← hq]; rfl)
    clear he
    go_wp2
    go_ret
    exact ⟨by rw [E.out]; rfl, B1.out⟩
  · rw [he] at c3
    by_cases t0 : 0 ≤ c.status
    · have d0 : decide (0 ≤ c.status) = true := by simpa using t0
      have d0' : decide (c.status ≥ 0) = true := by simpa using t0
      obtain ⟨q, hq⟩ : ∃ q, decide (c.status ≤ 7) = q := ⟨_, rfl⟩
      have E : Hid (c.endOk = q) := Lib.hid (by unfold Ct.endOk inB; rw [he, d0, hq]; rfl)
      clear t0 he
      go_wp2
      go_ret
      exact ⟨by rw [E.out]; rfl, B1.out⟩
    · have d0 : decide (0 ≤ c.status) = false := by simpa using t0
      have d0' : decide (c.status ≥ 0) = false := by simpa using t0
      have E : Hid (c.endOk = false) := Lib.hid (by unfold Ct.endOk inB; rw [he, d0]; rfl)
      clear t0 he
      go_wp2
      go_ret
      exact ⟨by rw [E.out]; rfl, B1.out⟩
end Go.Proofs.Ytilmicekpclmbaa
namespace Go.Proofs.Ytilmicekpclmbaa
set_option linter.unusedVariables false
set_option linter.unusedSimpArgs false
open Go.RowKit

open Classical in
/-- Is it right? -/
noncomputable def Ct.rt (c : Ct) : Bool := decide c.Right
theorem Ct.rt_iff {c : Ct} : c.rt = true ↔ c.Right := by unfold Ct.rt; simp
theorem Ct.rt_no {c : Ct} : c.rt = false ↔ ¬ c.Right := by unfold Ct.rt; simp
/-- What is asked of it ahead of its files. -/
structure Ct.Front (c : Ct) : Prop where
  g : 0 ≤ c.gen ∧ c.gen ≤ 1000
  s : 0 ≤ c.step ∧ c.step ≤ 20
  t : 0 ≤ c.status ∧ c.status ≤ 7
  e : c.ended = false → c.status = 0
  m : c.files.length ≤ 14
  k : c.card = Cd.zero ∨ c.card.Right
open Classical in
noncomputable def Ct.bad (c : Ct) : Bool := !decide c.Front
theorem Ct.bad_yes {c : Ct} : c.bad = true ↔ ¬ c.Front := by unfold Ct.bad; simp
theorem Ct.bad_no {c : Ct} : c.bad = false ↔ c.Front := by unfold Ct.bad; simp
/-- What is asked of a file. -/
structure fileOk (l : List Fl) (i : Nat) : Prop where
  f : (flAt l i).Right
  r : 0 < i → (flAt l (i - 1)).name < (flAt l i).name
open Classical in
noncomputable def fileBad (l : List Fl) (i : Nat) : Bool := !decide (fileOk l i)
theorem fileBad_yes {l : List Fl} {i : Nat} : fileBad l i = true ↔ ¬ fileOk l i := by unfold fileBad; simp
theorem fileBad_no {l : List Fl} {i : Nat} : fileBad l i = false ↔ fileOk l i := by unfold fileBad; simp
theorem right_of_front {c : Ct} (h : c.Front) (hf : ∀ i, i < c.files.length → fileOk c.files i) : c.Right :=
  ⟨h.g, h.s, h.t, h.e, h.k, h.m, fun i hi => (hf i hi).f, fun i hi => (hf (i + 1) hi).r (by omega)⟩
theorem file_of_right {c : Ct} (h : c.Right) (i : Nat) (hi : i < c.files.length) : fileOk c.files i :=
  ⟨h.f i hi, fun h0 => by have := h.r (i - 1) (by omega); rw [Nat.sub_add_cancel (by omega)] at this; exact this⟩
attribute [local go_sem ↓] neqCd_eq
end Go.Proofs.Ytilmicekpclmbaa
namespace Go.Proofs.Ytilmicekpclmbaa
set_option linter.unusedVariables false
set_option linter.unusedSimpArgs false
set_option maxRecDepth 100000
open Go.RowKit

open Classical in
noncomputable def filesRt (l : List Fl) : Bool := decide (l.length ≤ 14 ∧ ∀ i, i < l.length → fileOk l i)
theorem filesRt_yes {l : List Fl} : filesRt l = true ↔ (l.length ≤ 14 ∧ ∀ i, i < l.length → fileOk l i) := by unfold filesRt; simp
theorem filesRt_no {l : List Fl} : filesRt l = false ↔ ¬ (l.length ≤ 14 ∧ ∀ i, i < l.length → fileOk l i) := by unfold filesRt; simp
/-- The name ahead of a place. -/
def lastN (l : List Fl) (i : Nat) : Int := if i = 0 then 0 else (flAt l (i - 1)).name
theorem lastN_ok {l : List Fl} {i : Nat} (h : ∀ j, j < i → fileOk l j) : 0 ≤ lastN l i ∧ lastN l i ≤ 255 := by
  unfold lastN
  split
  · omega
  · have := (h (i - 1) (by omega)).f.n; omega
theorem fileOk_of {l : List Fl} {i : Nat} (h : (flAt l i).Right) (hn : lastN l i < (flAt l i).name) : fileOk l i := ⟨h, fun h0 => by unfold lastN at hn; rw [if_neg (by omega)] at hn; exact hn⟩
theorem fileOk_last {l : List Fl} {i : Nat} (h : fileOk l i) : lastN l i < (flAt l i).name := by
  unfold lastN
  split
  · have := h.f.n; omega
  · exact h.r (by omega)
set_option maxHeartbeats 2000000 in
theorem files_any (l : List Fl) (N : Nat) (A : Option Addr) (n cap : Nat) (w : World) (hl : l.length = n) (hm : n ≤ maxLen) (hr : FlR w N A l) (hN : N ≤ w.heap.size) :
    Calls Try.prog 61 #[.slice A n cap] w fun e w' => e = .returned (.bool (filesRt l)) ∧ Below w.heap.size w w' := by
  unfold maxLen at hm
  have HL := Lib.hid hl; have HR := Lib.hid hr
  clear hl hr
  go_enter Try.func61, Try.ntmps61
  by_cases h14 : n ≤ 14
  · have t1 : decide ((n : Int) > 14) = false := by rw [decide_eq_false_iff_not]; omega
    have t2 : decide ((14 : Int) < (n : Int)) = false := by rw [decide_eq_false_iff_not]; omega
    go_wp2
    go_loopw [3, 5, 11] (fun lv _ iv wr => ∃ i : Nat, i ≤ n ∧ iv = .int .i64 i ∧ lv = .int .i64 (lastN l i) ∧ (∀ j, j < i → fileOk l j) ∧ Below w.heap.size w wr) (fun _ _ iv _ => n - (intOf iv).toNat)
    case atStart => exact ⟨0, Nat.zero_le _, rfl, rfl, fun j hj => by omega, Below.refl _ _⟩
    case round =>
      obtain ⟨i, hi, rfl, rfl, hall, bw⟩ := hrel
      have HALL := Lib.hid hall
      obtain ⟨la0, la1⟩ := lastN_ok hall
      clear hall
      obtain ⟨la, hla⟩ : ∃ la, lastN l i = la := ⟨_, rfl⟩
      rw [hla] at la0 la1 ⊢
      have HLA := Lib.hid hla
      clear hla
      by_cases hlt : i < n
      · have i1 : decide ((i : Int) < (n : Int)) = true := by rw [decide_eq_true_eq]; omega
        have R3 := Lib.hid (HR.out.below (bw.mono hN))
        have hN3 : N ≤ wr.heap.size := by have := bw.size; omega
        obtain ⟨fb, fo, rfl, hfb, z0, z1, z2, z3, fok⟩ := R3.out i (by rw [HL.out]; exact hlt)
        obtain ⟨⟨n0, n1⟩, ⟨f0, f1⟩, ⟨x0, x1⟩, ⟨k0, k1⟩⟩ := id fok
        have FA := Lib.hid (fun w0 => file_any (flAt l i) fok w0)
        have BW := Lib.hid bw
        clear bw fok R3
        obtain ⟨f, hf⟩ : ∃ f, flAt l i = f := ⟨_, rfl⟩
        rw [hf] at z0 z1 z2 z3 n0 n1 f0 f1 x0 x1 k0 k1 FA
        have HF := Lib.hid hf
        clear hf
        go_wp2_with fail
        obtain ⟨W, hW⟩ : ∃ W, W = wr.alloc (.cells #[.int .i64 f.name, .int .i64 f.file, .int .i64 f.first, .int .i64 f.blocks] 40) := ⟨_, rfl⟩
        rw [← hW]
        obtain ⟨g, hg⟩ : ∃ g, g = wr.heap.size := ⟨_, rfl⟩
        rw [← hg]
        have y0 : W.cell? ⟨g, 0, none⟩ = some (.int .i64 f.name) := by rw [hW, hg]; exact cell_of_row _ _ _ _ _ _ (heap_alloc_new wr _)
        have hgW : g < W.heap.size := by rw [hW, hg]; simp
        have hbW : Below wr.heap.size wr W := by rw [hW]; exact (Below.refl _ _).alloc (Nat.le_refl _) _
        have BW2 := Lib.hid (bstep BW.out hbW)
        clear hW hg hbW BW z0 z1 z2 z3
        refine (FA.out W).mono ?_
        rintro e w2 ⟨rfl, b2⟩
        have BW3 := Lib.hid (bstep BW2.out b2)
        have y1 : w2.cell? ⟨g, 0, none⟩ = some (.int .i64 f.name) := by rw [b2.cell (p := ⟨g, 0, none⟩) hgW]; exact y0
        clear b2 y0 BW2
        cases hq : f.rt
        · have NR : Hid (filesRt l = false) := Lib.hid (filesRt_no.2 (fun r => Fl.rt_no.1 hq (by rw [← HF.out]; exact (r.2 i (by rw [HL.out]; exact hlt)).f)))
          clear hq
          go_wp2
          go_ret
          exact ⟨by rw [NR.out]; rfl, BW3.out⟩
        · by_cases hn : la < f.name
          · have q1 : decide (f.name ≤ la) = false := by rw [decide_eq_false_iff_not]; omega
            have HN : Hid (∀ j, j < i + 1 → fileOk l j) := Lib.hid (fun j hj => by
              by_cases hji : j = i
              · rw [hji]; exact fileOk_of (by rw [HF.out]; exact Fl.rt_iff.1 hq) (by rw [HF.out, HLA.out]; exact hn)
              · exact HALL.out j (by omega))
            have HX : Hid (f.name = lastN l (i + 1)) := Lib.hid (by unfold lastN; rw [if_neg (by omega), Nat.add_sub_cancel, HF.out])
            clear hq hn
            go_wp2
            go_roundw
            case rel => exact ⟨i + 1, by omega, by go_num, by rw [HX.out], HN.out, BW3.out⟩
            case measure => simp [intOf]; omega
          · have q1 : decide (f.name ≤ la) = true := by rw [decide_eq_true_eq]; omega
            have NR : Hid (filesRt l = false) := Lib.hid (filesRt_no.2 (fun r => hn (by have := fileOk_last (r.2 i (by rw [HL.out]; exact hlt)); rw [HF.out, HLA.out] at this; exact this)))
            clear hq hn
            go_wp2
            go_ret
            exact ⟨by rw [NR.out]; rfl, BW3.out⟩
      · obtain rfl : i = n := by omega
        have i1 : decide ((i : Int) < (i : Int)) = false := by simp
        have NR : Hid (filesRt l = true) := Lib.hid (filesRt_yes.2 ⟨by rw [HL.out]; exact h14, by rw [HL.out]; exact HALL.out⟩)
        go_wp2
        go_ret
        exact ⟨by rw [NR.out]; rfl, bw⟩
  · have t1 : decide ((n : Int) > 14) = true := by rw [decide_eq_true_eq]; omega
    have t2 : decide ((14 : Int) < (n : Int)) = true := by rw [decide_eq_true_eq]; omega
    have NR : Hid (filesRt l = false) := Lib.hid (filesRt_no.2 (fun r => h14 (by rw [← HL.out]; exact r.1)))
    go_wp2
    go_ret
    exact ⟨by rw [NR.out]; rfl, Below.refl _ _⟩
theorem Ct.rt_in (c : Ct) : c.rt = (inB c.gen 0 1000 && (inB c.step 0 20 && (c.endOk && ((decide (c.card = Cd.zero) || c.card.rt) && filesRt c.files)))) := by
  rw [Bool.eq_iff_iff, Ct.rt_iff]
  simp only [Bool.and_eq_true, Bool.or_eq_true, inB_yes, Ct.endOk_iff, filesRt_yes, Cd.rt_iff, decide_eq_true_eq]
  exact ⟨fun r => ⟨r.g, r.s, ⟨r.t, r.e⟩, r.k, r.m, fun i hi => file_of_right r i hi⟩, fun ⟨a, b, c, d, e, f⟩ => right_of_front ⟨a, b, c.1, c.2, e, d⟩ f⟩
attribute [local go_sem ↓] eqlCd_eq
set_option maxHeartbeats 2000000 in
theorem cat_any (c : Ct) (ok : c.Ok) (N : Nat) (A : Option Addr) (n cap : Nat) (w : World) (hl : c.files.length = n) (hm : n ≤ maxLen) (hr : FlR w N A c.files) (hN : N ≤ w.heap.size) :
    Calls Try.prog 47 #[.agg (ctv c A n cap).toArray] w fun e w' => e = .returned (.bool c.rt) ∧ Below w.heap.size w w' := by
  rw [Ct.rt_in]
  have W1 := Lib.hid (fun w0 => within_any c.gen 0 1000 ok.g ⟨by decide, by decide⟩ ⟨by decide, by decide⟩ w0)
  have W2 := Lib.hid (fun w0 => within_any c.step 0 20 ok.s ⟨by decide, by decide⟩ ⟨by decide, by decide⟩ w0)
  have W3 := Lib.hid (fun w0 => end_any c ok.t A n cap w0)
  have W4 := Lib.hid (fun w0 => card_any c.card ok.k w0)
  have W5 := Lib.hid (fun w0 h0 h1 => files_any c.files N A n cap w0 hl hm h0 h1)
  have zr : Hid (∀ w, (eqlCd (.agg #[.int .i64 c.card.frm, .int .i64 c.card.to_, .int .i64 c.card.budget, .int .i64 c.card.fan]) (.agg #[.int .i64 0, .int .i64 0, .int .i64 0, .int .i64 0])).run Try.prog w = .ok (.bool (decide (c.card = Cd.zero))) w) := Lib.hid (fun w => eqlCd_run c.card Cd.zero w)
  have eg := cd_guard
  obtain ⟨t1, h1⟩ : ∃ q, inB c.gen 0 1000 = q := ⟨_, rfl⟩
  obtain ⟨t2, h2⟩ : ∃ q, inB c.step 0 20 = q := ⟨_, rfl⟩
  obtain ⟨t3, h3⟩ : ∃ q, c.endOk = q := ⟨_, rfl⟩
  obtain ⟨t4, h4⟩ : ∃ q, decide (c.card = Cd.zero) = q := ⟨_, rfl⟩
  obtain ⟨t5, h5⟩ : ∃ q, c.card.rt = q := ⟨_, rfl⟩
  obtain ⟨t6, h6⟩ : ∃ q, filesRt c.files = q := ⟨_, rfl⟩
  rw [h1] at W1; rw [h2] at W2; rw [h3] at W3; rw [h4] at zr; rw [h5] at W4; rw [h6] at W5
  rw [h1, h2, h3, h4, h5, h6]
  have HR := Lib.hid hr
  obtain ⟨g0, g1⟩ := ok.g; obtain ⟨s0, s1⟩ := ok.s; obtain ⟨u0, u1⟩ := ok.t
  clear h1 h2 h3 h4 h5 h6 hl hr ok
  go_enter Try.func47, Try.ntmps47
  go_wp2_with (with_reducible refine box_ct rfl _ rfl c A n cap rfl ?_)
  intro w1 l1 b1 s1'
  obtain ⟨b, hb⟩ : ∃ b, b = w.heap.size := ⟨_, rfl⟩
  rw [← hb] at l1 ⊢
  have L1 := Lib.hid l1; have B1 := Lib.hid b1
  have R1 := Lib.hid (HR.out.below (b1.mono hN))
  have hN1 : N ≤ w1.heap.size := by have := b1.size; omega
  obtain ⟨c0, c1, c2, c3, c4, c5, c6, c7, c8⟩ := l1.cells
  clear hb b1 s1' l1 HR
  go_wp2_with fail
  refine (W1.out _).mono ?_
  rintro e w2 ⟨rfl, rfl⟩
  cases t1
  · go_wp2
    go_ret
    exact ⟨rfl, B1.out⟩
  · go_wp2_with fail
    refine (W2.out _).mono ?_
    rintro e w2 ⟨rfl, rfl⟩
    cases t2
    · go_wp2
      go_ret
      exact ⟨rfl, B1.out⟩
    · go_wp2_with (with_reducible refine load_ct rfl _ rfl b c A n cap L1.out rfl ?_)
      refine (W3.out _).mono ?_
      rintro e w2 ⟨rfl, b2⟩
      have L2 := Lib.hid (L1.out.below b2)
      have R2 := Lib.hid (R1.out.below (b2.mono hN1))
      have B2 := Lib.hid (bstep B1.out b2)
      have hN2 : N ≤ w2.heap.size := by have := b2.size; omega
      obtain ⟨c0, c1, c2, c3, c4, c5, c6, c7, c8⟩ := L2.out.cells
      clear b2 L1 R1 B1
      cases t3
      · go_wp2
        go_ret
        exact ⟨rfl, B2.out⟩
      · have zr := zr.out
        cases t4
        · go_wp2_with fail
          refine (W4.out _).mono ?_
          rintro e w3 ⟨rfl, b3⟩
          have L3 := Lib.hid (L2.out.below b3)
          have R3 := Lib.hid (R2.out.below (b3.mono hN2))
          have B3 := Lib.hid (bstep B2.out b3)
          have hN3 : N ≤ w3.heap.size := by have := b3.size; omega
          obtain ⟨c0, c1, c2, c3, c4, c5, c6, c7, c8⟩ := L3.out.cells
          clear b3 L2 R2 B2 zr
          cases t5
          · go_wp2
            go_ret
            exact ⟨rfl, B3.out⟩
          · go_wp2_with fail
            refine (W5.out _ R3.out hN3).mono ?_
            rintro e w4 ⟨rfl, b4⟩
            have B4 := Lib.hid (bstep B3.out b4)
            clear b4
            go_wp2
            go_ret
            exact ⟨rfl, B4.out⟩
        · go_wp2_with fail
          refine (W5.out _ R2.out hN2).mono ?_
          rintro e w4 ⟨rfl, b4⟩
          have B4 := Lib.hid (bstep B2.out b4)
          clear b4 zr
          go_wp2
          go_ret
          exact ⟨rfl, B4.out⟩
end Go.Proofs.Ytilmicekpclmbaa
