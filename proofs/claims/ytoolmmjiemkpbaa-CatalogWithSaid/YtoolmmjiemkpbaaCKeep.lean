/-
  The contract of the book's Catalogs: whether two catalogs are the same; nothing that was in memory turns.
-/
import Derived.Test.YtoolmmjiemkpbaaBSmF
namespace Go.Proofs.Ytoolmmjiemkpbaa
set_option linter.unusedVariables false
set_option linter.unusedSimpArgs false
open Go.RowKit

theorem Ct.ext' {a b : Ct} (h1 : a.gen = b.gen) (h2 : a.step = b.step) (h3 : a.status = b.status) (h4 : a.ended = b.ended) (h5 : a.card = b.card) (h6 : a.files = b.files) : a = b := by
  cases a; cases b; simp only at h1 h2 h3 h4 h5 h6; rw [h1, h2, h3, h4, h5, h6]
instance ctDec : DecidableEq Ct := fun a b => decidable_of_iff (a.gen = b.gen ∧ a.step = b.step ∧ a.status = b.status ∧ a.ended = b.ended ∧ a.card = b.card ∧ a.files = b.files)
  ⟨fun ⟨h1, h2, h3, h4, h5, h6⟩ => Ct.ext' h1 h2 h3 h4 h5 h6, fun e => by rw [e]; exact ⟨rfl, rfl, rfl, rfl, rfl, rfl⟩⟩
attribute [local go_sem ↓] eqlCd_eq
set_option maxRecDepth 100000 in
set_option maxHeartbeats 2000000 in
theorem cats_any (a b : Ct) (oa : a.Ok) (ob : b.Ok) (N : Nat) (A B : Option Addr) (n m c c' : Nat) (w : World) (hn : n ≤ maxLen) (hm : m ≤ maxLen) (hl : a.files.length = n) (hl' : b.files.length = m) (hA : FlR w N A a.files) (hB : FlR w N B b.files) (hN : N ≤ w.heap.size) :
    Calls Try.prog 43 #[.agg (ctv a A n c).toArray, .agg (ctv b B m c').toArray] w fun e w' => e = .returned (.bool (decide (a = b))) ∧ Below w.heap.size w w' := by
  have HL := Lib.hid hl; have HL' := Lib.hid hl'; have HA := Lib.hid hA; have HB := Lib.hid hB; have HN := Lib.hid hn; have HM := Lib.hid hm
  obtain ⟨ag0, ag1⟩ := oa.g; obtain ⟨as0, as1⟩ := oa.s; obtain ⟨at0, at1⟩ := oa.t
  obtain ⟨bg0, bg1⟩ := ob.g; obtain ⟨bs0, bs1⟩ := ob.s; obtain ⟨bt0, bt1⟩ := ob.t
  clear hl hl' hA hB hn hm oa ob
  go_enter Try.func43, Try.ntmps43
  go_wp2_with (with_reducible refine box_ct rfl _ rfl a A n c rfl ?_)
  intro w1 l1 b1 s1
  obtain ⟨p, hp⟩ : ∃ p, p = w.heap.size := ⟨_, rfl⟩
  rw [← hp] at l1 ⊢
  have L1 := Lib.hid l1; have B1 := Lib.hid b1
  clear hp b1 s1 l1
  go_wp2_with (with_reducible refine box_ct rfl _ rfl b B m c' rfl ?_)
  intro w2 l2 b2 s2
  obtain ⟨q, hq⟩ : ∃ q, q = w1.heap.size := ⟨_, rfl⟩
  rw [← hq] at l2 ⊢
  obtain ⟨c0, c1, c2, c3, c4, c5, c6, c7, c8⟩ := (L1.out.below b2).cells
  obtain ⟨d0, d1, d2, d3, d4, d5, d6, d7, d8⟩ := l2.cells
  have B2 := Lib.hid (bstep B1.out b2)
  clear hq b2 s2 l2 L1 B1
  have eg := cd_guard
  have SF := Lib.hid (fsame_eq N A B n m c c' a.files b.files w2 HN.out HM.out HL.out HL'.out (HA.out.below (B2.out.mono hN)) (HB.out.below (B2.out.mono hN)) (by have := B2.out.size; omega))
  by_cases h0 : a.gen = b.gen
  · have d0_0 : (a.gen == b.gen) = true := by simpa using h0
    by_cases h1 : a.step = b.step
    · have d1_0 : (a.step == b.step) = true := by simpa using h1
      by_cases h2 : a.status = b.status
      · have d2_0 : (a.status == b.status) = true := by simpa using h2
        by_cases h3 : a.ended = b.ended
        · have d3_0 : (a.ended == b.ended) = true := by simpa using h3
          by_cases hk : a.card = b.card
          · have eq1 : ∀ w, (eqlCd (.agg #[.int .i64 a.card.frm, .int .i64 a.card.to_, .int .i64 a.card.budget, .int .i64 a.card.fan]) (.agg #[.int .i64 b.card.frm, .int .i64 b.card.to_, .int .i64 b.card.budget, .int .i64 b.card.fan])).run Try.prog w = .ok (.bool true) w := fun w => by rw [eqlCd_run, decide_eq_true hk]
            have NR : Hid (decide (a = b) = decide (a.files = b.files)) := Lib.hid (by rw [decide_eq_decide]; exact ⟨fun e => by rw [e], fun e => Ct.ext' h0 h1 h2 h3 hk e⟩)
            clear h0 h1 h2 h3 hk
            go_wp2_with fail
            refine SF.out.mono ?_
            rintro e w3 ⟨rfl, b3⟩
            have B3 := Lib.hid (bstep B2.out b3)
            obtain ⟨z, hz⟩ : ∃ z, decide (a.files = b.files) = z := ⟨_, rfl⟩
            rw [hz]
            have NZ : Hid (decide (a = b) = z) := Lib.hid (by rw [NR.out, hz])
            clear b3 hz NR
            go_wp2
            go_ret
            exact ⟨by rw [NZ.out]; rfl, B3.out⟩
          · have eq1 : ∀ w, (eqlCd (.agg #[.int .i64 a.card.frm, .int .i64 a.card.to_, .int .i64 a.card.budget, .int .i64 a.card.fan]) (.agg #[.int .i64 b.card.frm, .int .i64 b.card.to_, .int .i64 b.card.budget, .int .i64 b.card.fan])).run Try.prog w = .ok (.bool false) w := fun w => by rw [eqlCd_run, decide_eq_false hk]
            have NR : Hid (decide (a = b) = false) := Lib.hid (by rw [decide_eq_false_iff_not]; intro e; apply hk; rw [e])
            clear h0 h1 h2 h3 hk
            go_wp2
            go_ret
            exact ⟨by rw [NR.out]; rfl, B2.out⟩
        · have d3_0 : (a.ended == b.ended) = false := by simpa using h3
          have NR : Hid (decide (a = b) = false) := Lib.hid (by rw [decide_eq_false_iff_not]; intro e; apply h3; rw [e])
          clear h0 h1 h2 h3
          go_wp2
          go_ret
          exact ⟨by rw [NR.out]; rfl, B2.out⟩
      · have d2_0 : (a.status == b.status) = false := by simpa using h2
        have NR : Hid (decide (a = b) = false) := Lib.hid (by rw [decide_eq_false_iff_not]; intro e; apply h2; rw [e])
        clear h0 h1 h2
        go_wp2
        go_ret
        exact ⟨by rw [NR.out]; rfl, B2.out⟩
    · have d1_0 : (a.step == b.step) = false := by simpa using h1
      have NR : Hid (decide (a = b) = false) := Lib.hid (by rw [decide_eq_false_iff_not]; intro e; apply h1; rw [e])
      clear h0 h1
      go_wp2
      go_ret
      exact ⟨by rw [NR.out]; rfl, B2.out⟩
  · have d0_0 : (a.gen == b.gen) = false := by simpa using h0
    have NR : Hid (decide (a = b) = false) := Lib.hid (by rw [decide_eq_false_iff_not]; intro e; apply h0; rw [e])
    clear h0
    go_wp2
    go_ret
    exact ⟨by rw [NR.out]; rfl, B2.out⟩
end Go.Proofs.Ytoolmmjiemkpbaa
