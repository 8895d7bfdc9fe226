/-
  The document's own RightCard (sheafref5): whether a card is right.
-/
import Derived.Test.YtjiigbmfbmkhjaaCt
import Derived.Test.YtjiigbmfbmkhjaaWCell
import Derived.WalkSpells
import Derived.WalkLawsBesides
namespace Go.Proofs.Ytjiigbmfbmkhjaa
set_option linter.unusedVariables false
set_option linter.unusedSimpArgs false
open Go.RowKit

def I64x (n : Int) : Prop := -9223372036854775808 ≤ n ∧ n ≤ 9223372036854775807
structure Cd.Ok (q : Cd) : Prop where
  a : I64x q.frm
  b : I64x q.to_
  c : I64x q.budget
  d : I64x q.fan
/-- A card's cells. -/
def cdv (c : Cd) : List Value := [.int .i64 c.frm, .int .i64 c.to_, .int .i64 c.budget, .int .i64 c.fan]
/-- Is it right? -/
def Cd.rt (c : Cd) : Bool := decide (0 ≤ c.frm) && (decide (c.frm ≤ c.to_) && (decide (c.to_ ≤ 1073741824) && (decide (2 ≤ c.budget) && (decide (c.budget ≤ 64) && (decide (2 ≤ c.fan) && decide (c.fan ≤ 16))))))
theorem Cd.rt_iff {c : Cd} : c.rt = true ↔ c.Right := by
  unfold Cd.rt
  simp only [Bool.and_eq_true, decide_eq_true_eq]
  exact ⟨fun ⟨a, b, c, d, e, f, g⟩ => ⟨a, b, c, ⟨d, e⟩, ⟨f, g⟩⟩, fun ⟨a, b, c, ⟨d, e⟩, ⟨f, g⟩⟩ => ⟨a, b, c, d, e, f, g⟩⟩
theorem Cd.rt_no {c : Cd} : c.rt = false ↔ ¬ c.Right := by rw [← Cd.rt_iff]; cases c.rt <;> simp
set_option maxRecDepth 100000 in
set_option maxHeartbeats 1000000 in
theorem rcard_any (c : Cd) (h : c.Ok) (w : World) :
    Calls Try.prog 15 #[.agg (cdv c).toArray] w fun e w' => e = .returned (.bool c.rt) ∧ Below w.heap.size w w' := by
  obtain ⟨⟨a0, a1⟩, ⟨b0, b1⟩, ⟨c0, c1⟩, ⟨e0, e1⟩⟩ := h
  show Calls Try.prog 15 #[.agg #[.int .i64 c.frm, .int .i64 c.to_, .int .i64 c.budget, .int .i64 c.fan]] w fun e w' => e = .returned (.bool c.rt) ∧ Below w.heap.size w w'
  go_enter Try.func15, Try.ntmps15
  by_cases h0 : 0 ≤ c.frm
  · have d0_0 : decide (0 ≤ c.frm) = true := by simpa using h0
    have d0_1 : decide (c.frm ≥ 0) = true := by simpa using h0
    by_cases h1 : c.frm ≤ c.to_
    · have d1_0 : decide (c.frm ≤ c.to_) = true := by simpa using h1
      by_cases h2 : c.to_ ≤ 1073741824
      · have d2_0 : decide (c.to_ ≤ 1073741824) = true := by simpa using h2
        by_cases h3 : 2 ≤ c.budget
        · have d3_0 : decide (2 ≤ c.budget) = true := by simpa using h3
          have d3_1 : decide (c.budget ≥ 2) = true := by simpa using h3
          by_cases h4 : c.budget ≤ 64
          · have d4_0 : decide (c.budget ≤ 64) = true := by simpa using h4
            by_cases h5 : 2 ≤ c.fan
            · have d5_0 : decide (2 ≤ c.fan) = true := by simpa using h5
              have d5_1 : decide (c.fan ≥ 2) = true := by simpa using h5
              by_cases h6 : c.fan ≤ 16
              · have d6_0 : decide (c.fan ≤ 16) = true := by simpa using h6
                have NR : Hid (c.rt = true) := Lib.hid (Cd.rt_iff.2 ⟨h0, h1, h2, ⟨h3, h4⟩, ⟨h5, h6⟩⟩)
                clear h0 h1 h2 h3 h4 h5 h6
                go_wp2
                go_ret
                exact ⟨by rw [NR.out]; rfl, (Below.refl _ _).alloc (Nat.le_refl _) _⟩
              · have d6_0 : decide (c.fan ≤ 16) = false := by simpa using h6
                have NR : Hid (c.rt = false) := Lib.hid (Cd.rt_no.2 (fun r => by have := r.a; have := r.b; have := r.c; have := r.d; have := r.e; omega))
                clear h0 h1 h2 h3 h4 h5 h6
                go_wp2
                go_ret
                exact ⟨by rw [NR.out]; rfl, (Below.refl _ _).alloc (Nat.le_refl _) _⟩
            · have d5_0 : decide (2 ≤ c.fan) = false := by simpa using h5
              have d5_1 : decide (c.fan ≥ 2) = false := by simpa using h5
              have NR : Hid (c.rt = false) := Lib.hid (Cd.rt_no.2 (fun r => by have := r.a; have := r.b; have := r.c; have := r.d; have := r.e; omega))
              clear h0 h1 h2 h3 h4 h5
              go_wp2
              go_ret
              exact ⟨by rw [NR.out]; rfl, (Below.refl _ _).alloc (Nat.le_refl _) _⟩
          · have d4_0 : decide (c.budget ≤ 64) = false := by simpa using h4
            have NR : Hid (c.rt = false) := Lib.hid (Cd.rt_no.2 (fun r => by have := r.a; have := r.b; have := r.c; have := r.d; have := r.e; omega))
            clear h0 h1 h2 h3 h4
            go_wp2
            go_ret
            exact ⟨by rw [NR.out]; rfl, (Below.refl _ _).alloc (Nat.le_refl _) _⟩
        · have d3_0 : decide (2 ≤ c.budget) = false := by simpa using h3
          have d3_1 : decide (c.budget ≥ 2) = false := by simpa using h3
          have NR : Hid (c.rt = false) := Lib.hid (Cd.rt_no.2 (fun r => by have := r.a; have := r.b; have := r.c; have := r.d; have := r.e; omega))
          clear h0 h1 h2 h3
          go_wp2
          go_ret
          exact ⟨by rw [NR.out]; rfl, (Below.refl _ _).alloc (Nat.le_refl _) _⟩
      · have d2_0 : decide (c.to_ ≤ 1073741824) = false := by simpa using h2
        have NR : Hid (c.rt = false) := Lib.hid (Cd.rt_no.2 (fun r => by have := r.a; have := r.b; have := r.c; have := r.d; have := r.e; omega))
        clear h0 h1 h2
        go_wp2
        go_ret
        exact ⟨by rw [NR.out]; rfl, (Below.refl _ _).alloc (Nat.le_refl _) _⟩
    · have d1_0 : decide (c.frm ≤ c.to_) = false := by simpa using h1
      have NR : Hid (c.rt = false) := Lib.hid (Cd.rt_no.2 (fun r => by have := r.a; have := r.b; have := r.c; have := r.d; have := r.e; omega))
      clear h0 h1
      go_wp2
      go_ret
      exact ⟨by rw [NR.out]; rfl, (Below.refl _ _).alloc (Nat.le_refl _) _⟩
  · have d0_0 : decide (0 ≤ c.frm) = false := by simpa using h0
    have d0_1 : decide (c.frm ≥ 0) = false := by simpa using h0
    have NR : Hid (c.rt = false) := Lib.hid (Cd.rt_no.2 (fun r => by have := r.a; have := r.b; have := r.c; have := r.d; have := r.e; omega))
    clear h0
    go_wp2
    go_ret
    exact ⟨by rw [NR.out]; rfl, (Below.refl _ _).alloc (Nat.le_refl _) _⟩
end Go.Proofs.Ytjiigbmfbmkhjaa
