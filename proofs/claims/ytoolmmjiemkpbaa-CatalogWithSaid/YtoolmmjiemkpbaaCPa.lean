/-
  The contracts of package catalog's within, RightCard, rightFile and rightEnd: each says what the document asks; nothing that was in memory turns.
-/
import Derived.Test.YtoolmmjiemkpbaaCA
import Derived.WalkSpells
import Derived.WalkLawsBesides
namespace Go.Proofs.Ytoolmmjiemkpbaa
set_option linter.unusedVariables false
set_option linter.unusedSimpArgs false
set_option maxRecDepth 100000
open Go.RowKit

/-- Between two bounds. -/
def inB (n lo hi : Int) : Bool := decide (lo ≤ n) && decide (n ≤ hi)
theorem inB_yes {n lo hi : Int} : inB n lo hi = true ↔ lo ≤ n ∧ n ≤ hi := by unfold inB; simp
theorem inB_no {n lo hi : Int} : inB n lo hi = false ↔ ¬ (lo ≤ n ∧ n ≤ hi) := by rw [← inB_yes]; cases inB n lo hi <;> simp
theorem within_any (n lo hi : Int) (hn : I64x n) (hlo : I64x lo) (hhi : I64x hi) (w : World) :
    Calls Try.prog 31 #[.int .i64 n, .int .i64 lo, .int .i64 hi] w fun e w' => e = .returned (.bool (inB n lo hi)) ∧ w = w' := by
  obtain ⟨n0, n1⟩ := hn; obtain ⟨l0, l1⟩ := hlo; obtain ⟨h0, h1⟩ := hhi
  go_enter Try.func31, Try.ntmps31
  by_cases t1 : lo ≤ n
  · have d1 : decide (lo ≤ n) = true := by simpa using t1
    have d2 : decide (n ≥ lo) = true := by simpa using t1
    obtain ⟨q, hq⟩ : ∃ q, decide (n ≤ hi) = q := ⟨_, rfl⟩
    have E : Hid (inB n lo hi = q) := Lib.hid (by unfold inB; rw [d1, hq]; rfl)
    clear t1
    go_wp2
    go_ret
    exact ⟨by rw [E.out]; rfl, rfl⟩
  · have d1 : decide (lo ≤ n) = false := by simpa using t1
    have d2 : decide (n ≥ lo) = false := by simpa using t1
    have E : Hid (inB n lo hi = false) := Lib.hid (by unfold inB; rw [d1]; rfl)
    clear t1
    go_wp2
    go_ret
    exact ⟨by rw [E.out]; rfl, rfl⟩
theorem Cd.rt_in (c : Cd) : c.rt = (decide (0 ≤ c.frm) && (decide (c.frm ≤ c.to_) && (decide (c.to_ ≤ 1073741824) && (inB c.budget 2 64 && inB c.fan 2 16)))) := by
  unfold Cd.rt inB
  simp only [Bool.and_assoc]
set_option maxHeartbeats 1000000 in
theorem card_any (c : Cd) (h : c.Ok) (w : World) :
    Calls Try.prog 33 #[.agg (cdv c).toArray] w fun e w' => e = .returned (.bool c.rt) ∧ Below w.heap.size w w' := by
  have WB := Lib.hid (fun w0 => within_any c.budget 2 64 h.c ⟨by decide, by decide⟩ ⟨by decide, by decide⟩ w0)
  have WF := Lib.hid (fun w0 => within_any c.fan 2 16 h.d ⟨by decide, by decide⟩ ⟨by decide, by decide⟩ w0)
  obtain ⟨⟨a0, a1⟩, ⟨b0, b1⟩, ⟨c0, c1⟩, ⟨e0, e1⟩⟩ := h
  rw [Cd.rt_in]
  obtain ⟨tb, htb⟩ : ∃ q, inB c.budget 2 64 = q := ⟨_, rfl⟩
  obtain ⟨tf, htf⟩ : ∃ q, inB c.fan 2 16 = q := ⟨_, rfl⟩
  rw [htb, htf]
  rw [htb] at WB
  rw [htf] at WF
  clear htb htf
  show Calls Try.prog 33 #[.agg #[.int .i64 c.frm, .int .i64 c.to_, .int .i64 c.budget, .int .i64 c.fan]] w _
  go_enter Try.func33, Try.ntmps33
  by_cases h0 : 0 ≤ c.frm
  · have d0 : decide (0 ≤ c.frm) = true := by simpa using h0
    have d0' : decide (c.frm ≥ 0) = true := by simpa using h0
    rw [d0]
    by_cases h1 : c.frm ≤ c.to_
    · have d1 : decide (c.frm ≤ c.to_) = true := by simpa using h1
      rw [d1]
      by_cases h2 : c.to_ ≤ 1073741824
      · have d2 : decide (c.to_ ≤ 1073741824) = true := by simpa using h2
        rw [d2]
        clear h0 h1 h2
        go_wp2_with fail
        refine (WB.out _).mono ?_
        rintro e w2 ⟨rfl, rfl⟩
        cases tb
        · go_wp2
          go_ret
          exact ⟨rfl, (Below.refl _ _).alloc (Nat.le_refl _) _⟩
        · go_wp2_with fail
          refine (WF.out _).mono ?_
          rintro e w2 ⟨rfl, rfl⟩
          go_wp2
          go_ret
          exact ⟨rfl, (Below.refl _ _).alloc (Nat.le_refl _) _⟩
      · have d2 : decide (c.to_ ≤ 1073741824) = false := by simpa using h2
        rw [d2]
        clear h0 h1 h2
        go_wp2
        go_ret
        exact ⟨rfl, (Below.refl _ _).alloc (Nat.le_refl _) _⟩
    · have d1 : decide (c.frm ≤ c.to_) = false := by simpa using h1
      rw [d1]
      clear h0 h1
      go_wp2
      go_ret
      exact ⟨rfl, (Below.refl _ _).alloc (Nat.le_refl _) _⟩
  · have d0 : decide (0 ≤ c.frm) = false := by simpa using h0
    have d0' : decide (c.frm ≥ 0) = false := by simpa using h0
    rw [d0]
    clear h0
    go_wp2
    go_ret
    exact ⟨rfl, (Below.refl _ _).alloc (Nat.le_refl _) _⟩
/-- Is a file right? -/
def Fl.rt (f : Fl) : Bool := inB f.name 1 255 && (inB f.file 1 65535 && (inB f.first 0 65535 && (inB f.blocks 0 512 && (decide (f.first = 0) == decide (f.blocks = 0)))))
theorem Fl.rt_iff {f : Fl} : f.rt = true ↔ f.Right := by
  unfold Fl.rt
  simp only [Bool.and_eq_true, inB_yes, beq_iff_eq, decide_eq_decide]
  exact ⟨fun ⟨a, b, c, d, e⟩ => ⟨a, b, d, c, e.symm⟩, fun ⟨a, b, d, c, e⟩ => ⟨a, b, c, d, e.symm⟩⟩
theorem Fl.rt_no {f : Fl} : f.rt = false ↔ ¬ f.Right := by rw [← Fl.rt_iff]; cases f.rt <;> simp
set_option maxHeartbeats 1000000 in
theorem file_any (f : Fl) (h : f.Ok) (w : World) :
    Calls Try.prog 61 #[.agg #[.int .i64 f.name, .int .i64 f.file, .int .i64 f.first, .int .i64 f.blocks]] w fun e w' => e = .returned (.bool f.rt) ∧ Below w.heap.size w w' := by
  have W1 := Lib.hid (fun w0 => within_any f.name 1 255 h.a ⟨by decide, by decide⟩ ⟨by decide, by decide⟩ w0)
  have W2 := Lib.hid (fun w0 => within_any f.file 1 65535 h.b ⟨by decide, by decide⟩ ⟨by decide, by decide⟩ w0)
  have W3 := Lib.hid (fun w0 => within_any f.first 0 65535 h.c ⟨by decide, by decide⟩ ⟨by decide, by decide⟩ w0)
  have W4 := Lib.hid (fun w0 => within_any f.blocks 0 512 h.d ⟨by decide, by decide⟩ ⟨by decide, by decide⟩ w0)
  obtain ⟨⟨a0, a1⟩, ⟨b0, b1⟩, ⟨c0, c1⟩, ⟨e0, e1⟩⟩ := h
  unfold Fl.rt
  obtain ⟨t1, h1⟩ : ∃ q, inB f.name 1 255 = q := ⟨_, rfl⟩
  obtain ⟨t2, h2⟩ : ∃ q, inB f.file 1 65535 = q := ⟨_, rfl⟩
  obtain ⟨t3, h3⟩ : ∃ q, inB f.first 0 65535 = q := ⟨_, rfl⟩
  obtain ⟨t4, h4⟩ : ∃ q, inB f.blocks 0 512 = q := ⟨_, rfl⟩
  rw [h1] at W1; rw [h2] at W2; rw [h3] at W3; rw [h4] at W4
  rw [h1, h2, h3, h4]
  clear h1 h2 h3 h4
  obtain ⟨q5, h5⟩ : ∃ q, decide (f.first = 0) = q := ⟨_, rfl⟩
  obtain ⟨q6, h6⟩ : ∃ q, decide (f.blocks = 0) = q := ⟨_, rfl⟩
  have h7 : (f.first == 0) = q5 := by rw [← h5]; rfl
  have h8 : (f.blocks == 0) = q6 := by rw [← h6]; rfl
  rw [h5, h6]
  go_enter Try.func61, Try.ntmps61
  go_wp2_with fail
  refine (W1.out _).mono ?_
  rintro e w2 ⟨rfl, rfl⟩
  cases t1
  · go_wp2
    go_ret
    exact ⟨rfl, (Below.refl _ _).alloc (Nat.le_refl _) _⟩
  · go_wp2_with fail
    refine (W2.out _).mono ?_
    rintro e w2 ⟨rfl, rfl⟩
    cases t2
    · go_wp2
      go_ret
      exact ⟨rfl, (Below.refl _ _).alloc (Nat.le_refl _) _⟩
    · go_wp2_with fail
      refine (W3.out _).mono ?_
      rintro e w2 ⟨rfl, rfl⟩
      cases t3
      · go_wp2
        go_ret
        exact ⟨rfl, (Below.refl _ _).alloc (Nat.le_refl _) _⟩
      · go_wp2_with fail
        refine (W4.out _).mono ?_
        rintro e w2 ⟨rfl, rfl⟩
        cases t4
        · go_wp2
          go_ret
          exact ⟨rfl, (Below.refl _ _).alloc (Nat.le_refl _) _⟩
        · go_wp2
          go_ret
          exact ⟨rfl, (Below.refl _ _).alloc (Nat.le_refl _) _⟩
/-- Does its end agree with its status? -/
def Ct.endOk (c : Ct) : Bool := if c.ended then inB c.status 0 7 else decide (c.status = 0)
theorem Ct.endOk_iff {c : Ct} : c.endOk = true ↔ ((0 ≤ c.status ∧ c.status ≤ 7) ∧ (c.ended = false → c.status = 0)) := by
  unfold Ct.endOk
  cases he : c.ended
  · simp; omega
  · simp [inB_yes]
set_option maxHeartbeats 1000000 in
theorem end_any (c : Ct) (h : I64x c.status) (A : Option Addr) (n cap : Nat) (w : World) :
    Calls Try.prog 32 #[.agg (ctv c A n cap).toArray] w fun e w' => e = .returned (.bool c.endOk) ∧ Below w.heap.size w w' := by
  obtain ⟨h0, h1⟩ := h
  go_enter Try.func32, Try.ntmps32
  go_wp2_with (with_reducible refine box_ct rfl _ rfl c A n cap rfl ?_)
  intro w1 l1 b1 s1
  obtain ⟨b, hb⟩ : ∃ b, b = w.heap.size := ⟨_, rfl⟩
  rw [← hb] at l1 ⊢
  obtain ⟨_, _, c2, c3, _⟩ := l1.cells
  have B1 := Lib.hid b1
  clear hb b1 s1 l1
  cases he : c.ended
  · rw [he] at c3
    obtain ⟨q, hq⟩ : ∃ q, decide (c.status = 0) = q := ⟨_, rfl⟩
    have hq' : (c.status == 0) = q := by rw [← hq]; rfl
    have E : Hid (c.endOk = q) := Lib.hid (by unfold Ct.endOk; rw [he, ← hq]; rfl)
    clear he
    go_wp2
    go_ret
    exact ⟨by rw [E.out]; rfl, B1.out⟩
  · rw [he] at c3
    by_cases t0 : 0 ≤ c.status
    · have d0 : decide (0 ≤ c.status) = true := by simpa using t0
      have d0' : decide (c.status ≥ 0) = true := by simpa using t0
      obtain ⟨q, hq⟩ : ∃ q, decide (c.status ≤ 7) = q := ⟨_, rfl⟩
      have E : Hid (c.endOk = q) := Lib.hid (by unfold Ct.endOk inB; rw [he, d0, hq]; rfl)
      clear t0 he
      go_wp2
      go_ret
      exact ⟨by rw [E.out]; rfl, B1.out⟩
    · have d0 : decide (0 ≤ c.status) = false := by simpa using t0
      have d0' : decide (c.status ≥ 0) = false := by simpa using t0
      have E : Hid (c.endOk = false) := Lib.hid (by unfold Ct.endOk inB; rw [he, d0]; rfl)
      clear t0 he
      go_wp2
      go_ret
      exact ⟨by rw [E.out]; rfl, B1.out⟩
end Go.Proofs.Ytoolmmjiemkpbaa
