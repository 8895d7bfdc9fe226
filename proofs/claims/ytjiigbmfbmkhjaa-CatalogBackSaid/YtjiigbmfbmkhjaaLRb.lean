/-
  The document's own RightLeaf (sheafref5): whether a leaf is right.
-/
import Derived.Test.YtjiigbmfbmkhjaaLRa
namespace Go.Proofs.Ytjiigbmfbmkhjaa
set_option linter.unusedVariables false
set_option linter.unusedSimpArgs false
open Go.RowKit

set_option maxRecDepth 100000 in
set_option maxHeartbeats 2000000 in
theorem rright_any (L : Lf) (h : L.Ok) (w : World) :
    Calls Try.prog 33 #[.agg (lv L).toArray] w fun e w' => e = .returned (.bool L.rt) ∧ Below w.heap.size w w' := by
  have H := Lib.hid h
  obtain ⟨kb0, kb1⟩ := h.k; obtain ⟨fb0, fb1⟩ := h.f; obtain ⟨pb0, pb1⟩ := h.p; obtain ⟨nb0, nb1⟩ := h.n; obtain ⟨sb0, sb1⟩ := h.s
  go_enter Try.func33, Try.ntmps33
  go_wp2_with (with_reducible refine box_leaf rfl _ rfl L H.out rfl ?_)
  intro w1 l1 b1 s1
  obtain ⟨b, hb⟩ : ∃ b, b = w.heap.size := ⟨_, rfl⟩
  rw [← hb] at l1 ⊢
  have c0 := l1.kind; have c1 := l1.file; have c2 := l1.place; have c3 := l1.next; have c4 := l1.size
  have L1 := Lib.hid l1; have B1 := Lib.hid b1
  obtain ⟨m0, hm0⟩ : ∃ m0 : Int, max L.size 0 = m0 := ⟨_, rfl⟩
  have m1 : 0 ≤ m0 := by omega
  have m2 : m0 ≤ 9223372036854775807 := by omega
  have M3 : Hid (L.size ≤ m0 ∧ (0 ≤ L.size → m0 = L.size)) := Lib.hid (by omega)
  clear h hb b1 s1 l1
  go_wp2
  clear hm0
  go_loop [3] (fun iv => ∃ i : Nat, iv = .int .i64 i ∧ m0 ≤ i ∧ (i : Int) ≤ 9223372036854775807 ∧ (m0 ≤ 116 → (i : Int) ≤ 116) ∧ ∀ j : Nat, m0 ≤ j → j < i → L.load.getD j 0 = 0) (fun iv => 116 - (intOf iv).toNat)
  case atStart => exact ⟨m0.toNat, by congr 1; omega, by omega, by omega, by omega, fun j h0 h1 => by omega⟩
  case round =>
    obtain ⟨i, rfl, hi0, hi2, hi1, hall⟩ := hrel
    by_cases hlt : i < 116
    · have d1 : decide ((i : Int) < 116) = true := by rw [decide_eq_true_eq]; omega
      have d2 : decide (i < 116) = true := by rw [decide_eq_true_eq]; omega
      have cb := L1.out.byte i hlt
      have HALL := Lib.hid hall
      clear hall
      obtain ⟨u0, u1⟩ := H.out.u i (by rw [H.out.l]; exact hlt)
      by_cases hz : L.load.getD i 0 = 0
      · have HN : Hid (∀ j : Nat, m0 ≤ j → j < i + 1 → L.load.getD j 0 = 0) := Lib.hid (fun j h0 h1 => by
          by_cases hji : j = i
          · rw [hji]; exact hz
          · exact HALL.out j h0 (by omega))
        rw [hz] at cb
        clear hz u0 u1
        go_wp2
        go_round
        case rel => exact ⟨i + 1, by go_num, by omega, by omega, by omega, HN.out⟩
        case measure => simp [intOf]; omega
      · have NR : Hid (L.rt = false) := Lib.hid ((Lf.rt_no H.out).2 (fun r => hz (r.b i (by have := M3.out; omega) hlt)))
        have t1 : (L.load.getD i 0 != 0) = true := by simpa using hz
        clear hz
        generalize L.load.getD i 0 = x at *
        go_wp2
        go_ret
        exact ⟨by rw [NR.out]; rfl, B1.out⟩
    · have d1 : decide ((i : Int) < 116) = false := by rw [decide_eq_false_iff_not]; omega
      have d2 : decide (i < 116) = false := by rw [decide_eq_false_iff_not]; omega
      have HALL : Hid (∀ j : Nat, L.size ≤ j ∧ 0 ≤ L.size → j < 116 → L.load.getD j 0 = 0) := Lib.hid (fun j h0 h1 => hall j (by have := M3.out; omega) (by omega))
      clear hall
      by_cases h0 : 1 ≤ L.kind
      · have d0 : decide (1 ≤ L.kind) = true := by simpa using h0
        have e0 : decide (L.kind ≥ 1) = true := by simpa using h0
        by_cases h1 : L.kind ≤ 2
        · have d1 : decide (L.kind ≤ 2) = true := by simpa using h1
          by_cases h2 : 0 ≤ L.file
          · have d2 : decide (0 ≤ L.file) = true := by simpa using h2
            have e2 : decide (L.file ≥ 0) = true := by simpa using h2
            by_cases h3 : L.file < 65536
            · have d3 : decide (L.file < 65536) = true := by simpa using h3
              by_cases h4 : 0 ≤ L.place
              · have d4 : decide (0 ≤ L.place) = true := by simpa using h4
                have e4 : decide (L.place ≥ 0) = true := by simpa using h4
                by_cases h5 : L.place < 65536
                · have d5 : decide (L.place < 65536) = true := by simpa using h5
                  by_cases h6 : 0 ≤ L.next
                  · have d6 : decide (0 ≤ L.next) = true := by simpa using h6
                    have e6 : decide (L.next ≥ 0) = true := by simpa using h6
                    by_cases h7 : L.next < 65536
                    · have d7 : decide (L.next < 65536) = true := by simpa using h7
                      by_cases h8 : 0 ≤ L.size
                      · have d8 : decide (0 ≤ L.size) = true := by simpa using h8
                        have e8 : decide (L.size ≥ 0) = true := by simpa using h8
                        by_cases h9 : L.size ≤ 116
                        · have d9 : decide (L.size ≤ 116) = true := by simpa using h9
                          have NR : Hid (L.rt = true) := Lib.hid ((Lf.rt_iff H.out).2 ⟨by omega, ⟨by omega, by omega⟩, ⟨by omega, by omega⟩, ⟨by omega, by omega⟩, ⟨by omega, by omega⟩, fun j h0 h1 => HALL.out j (by omega) (by omega)⟩)
                          clear h0 h1 h2 h3 h4 h5 h6 h7 h8 h9
                          go_wp2
                          go_ret
                          exact ⟨by rw [NR.out]; rfl, B1.out⟩
                        · have d9 : decide (L.size ≤ 116) = false := by simpa using h9
                          have NR : Hid (L.rt = false) := Lib.hid ((Lf.rt_no H.out).2 (fun r => by have := r.k; have := r.f; have := r.p; have := r.n; have := r.s; omega))
                          clear h0 h1 h2 h3 h4 h5 h6 h7 h8 h9
                          go_wp2
                          go_ret
                          exact ⟨by rw [NR.out]; rfl, B1.out⟩
                      · have d8 : decide (0 ≤ L.size) = false := by simpa using h8
                        have e8 : decide (L.size ≥ 0) = false := by simpa using h8
                        have NR : Hid (L.rt = false) := Lib.hid ((Lf.rt_no H.out).2 (fun r => by have := r.k; have := r.f; have := r.p; have := r.n; have := r.s; omega))
                        clear h0 h1 h2 h3 h4 h5 h6 h7 h8
                        go_wp2
                        go_ret
                        exact ⟨by rw [NR.out]; rfl, B1.out⟩
                    · have d7 : decide (L.next < 65536) = false := by simpa using h7
                      have NR : Hid (L.rt = false) := Lib.hid ((Lf.rt_no H.out).2 (fun r => by have := r.k; have := r.f; have := r.p; have := r.n; have := r.s; omega))
                      clear h0 h1 h2 h3 h4 h5 h6 h7
                      go_wp2
                      go_ret
                      exact ⟨by rw [NR.out]; rfl, B1.out⟩
                  · have d6 : decide (0 ≤ L.next) = false := by simpa using h6
                    have e6 : decide (L.next ≥ 0) = false := by simpa using h6
                    have NR : Hid (L.rt = false) := Lib.hid ((Lf.rt_no H.out).2 (fun r => by have := r.k; have := r.f; have := r.p; have := r.n; have := r.s; omega))
                    clear h0 h1 h2 h3 h4 h5 h6
                    go_wp2
                    go_ret
                    exact ⟨by rw [NR.out]; rfl, B1.out⟩
                · have d5 : decide (L.place < 65536) = false := by simpa using h5
                  have NR : Hid (L.rt = false) := Lib.hid ((Lf.rt_no H.out).2 (fun r => by have := r.k; have := r.f; have := r.p; have := r.n; have := r.s; omega))
                  clear h0 h1 h2 h3 h4 h5
                  go_wp2
                  go_ret
                  exact ⟨by rw [NR.out]; rfl, B1.out⟩
              · have d4 : decide (0 ≤ L.place) = false := by simpa using h4
                have e4 : decide (L.place ≥ 0) = false := by simpa using h4
                have NR : Hid (L.rt = false) := Lib.hid ((Lf.rt_no H.out).2 (fun r => by have := r.k; have := r.f; have := r.p; have := r.n; have := r.s; omega))
                clear h0 h1 h2 h3 h4
                go_wp2
                go_ret
                exact ⟨by rw [NR.out]; rfl, B1.out⟩
            · have d3 : decide (L.file < 65536) = false := by simpa using h3
              have NR : Hid (L.rt = false) := Lib.hid ((Lf.rt_no H.out).2 (fun r => by have := r.k; have := r.f; have := r.p; have := r.n; have := r.s; omega))
              clear h0 h1 h2 h3
              go_wp2
              go_ret
              exact ⟨by rw [NR.out]; rfl, B1.out⟩
          · have d2 : decide (0 ≤ L.file) = false := by simpa using h2
            have e2 : decide (L.file ≥ 0) = false := by simpa using h2
            have NR : Hid (L.rt = false) := Lib.hid ((Lf.rt_no H.out).2 (fun r => by have := r.k; have := r.f; have := r.p; have := r.n; have := r.s; omega))
            clear h0 h1 h2
            go_wp2
            go_ret
            exact ⟨by rw [NR.out]; rfl, B1.out⟩
        · have d1 : decide (L.kind ≤ 2) = false := by simpa using h1
          have NR : Hid (L.rt = false) := Lib.hid ((Lf.rt_no H.out).2 (fun r => by have := r.k; have := r.f; have := r.p; have := r.n; have := r.s; omega))
          clear h0 h1
          go_wp2
          go_ret
          exact ⟨by rw [NR.out]; rfl, B1.out⟩
      · have d0 : decide (1 ≤ L.kind) = false := by simpa using h0
        have e0 : decide (L.kind ≥ 1) = false := by simpa using h0
        have NR : Hid (L.rt = false) := Lib.hid ((Lf.rt_no H.out).2 (fun r => by have := r.k; have := r.f; have := r.p; have := r.n; have := r.s; omega))
        clear h0
        go_wp2
        go_ret
        exact ⟨by rw [NR.out]; rfl, B1.out⟩
end Go.Proofs.Ytjiigbmfbmkhjaa
