/-
  The walk of the statement WideRuns: the call returns true; nothing that was in memory turns.
-/
import Derived.Test.YtnjegjmcfldpnaaWMul
import Derived.Test.YtnjegjmcfldpnaaWInt
import Derived.Test.YtnjegjmcfldpnaaWQuo
import Derived.Test.YtnjegjmcfldpnaaBSame
import Derived.Deep.AppendLies
namespace Go.Proofs.Ytnjegjmcfldpnaa
set_option linter.unusedVariables false
set_option linter.unusedSimpArgs false
open Go.RowKit

theorem runs_mul (w : World) : Calls Try.prog 9 #[.int .i64 4611686018427387904, .int .i64 4] w fun e w' => e = .returned (.agg #[.int .i64 1, .int .u64 0]) ∧ Below w.heap.size w w' := by
  have e1 : hiW (4611686018427387904 * 4) = 1 := by decide
  have e2 : loW (4611686018427387904 * 4) = 0 := by decide
  have h := mul_any 4611686018427387904 4 ⟨by decide, by decide⟩ ⟨by decide, by decide⟩ w
  rw [e1, e2] at h; exact h
theorem runs_int (w : World) : Calls Try.prog 10 #[.agg #[.int .i64 1, .int .u64 0]] w fun e w' => e = .returned (.tuple #[.int .i64 0, .bool false]) ∧ Below w.heap.size w w' := by
  have e1 : hiW 18446744073709551616 = 1 := by decide
  have e2 : loW 18446744073709551616 = 0 := by decide
  have h := int_no 18446744073709551616 ⟨by decide, by decide⟩ (fun h => absurd h.2 (by decide)) w
  rw [e1, e2] at h; exact h
theorem runs_mul6 (w : World) : Calls Try.prog 9 #[.int .i64 4611686018427387904, .int .i64 6] w fun e w' => e = .returned (.agg #[.int .i64 1, .int .u64 9223372036854775808]) ∧ Below w.heap.size w w' := by
  have e1 : hiW (4611686018427387904 * 6) = 1 := by decide
  have e2 : loW (4611686018427387904 * 6) = 9223372036854775808 := by decide
  have h := mul_any 4611686018427387904 6 ⟨by decide, by decide⟩ ⟨by decide, by decide⟩ w
  rw [e1, e2] at h; exact h
theorem runs_quo8 (w : World) : Calls Try.prog 11 #[.agg #[.int .i64 1, .int .u64 9223372036854775808], .int .i64 8] w fun e w' => e = .returned (.tuple #[.int .i64 3458764513820540928, .bool true]) ∧ Below w.heap.size w w' := by
  have e1 : hiW 27670116110564327424 = 1 := by decide
  have e2 : loW 27670116110564327424 = 9223372036854775808 := by decide
  have e3 : nearS 27670116110564327424 8 = 3458764513820540928 := by decide
  have h := quo_yes 27670116110564327424 8 ⟨by decide, by decide⟩ (by decide) (by decide) (by rw [e3]; exact ⟨by decide, by decide⟩) w
  rw [e1, e2, e3] at h; exact h
/-- What goes in, and what comes out. -/
def rIn : List Int := [5, 7, -5, -7]
def rOut : List Int := [2, 4, -2, -4]
theorem runs_at (k : Nat) (hk : k < 4) : ∃ v e : Int, rIn[k]? = some v ∧ rOut.take (k + 1) = rOut.take k ++ [e] ∧ I64 v ∧ nearS v 2 = e ∧ I64 e := by
  match k, hk with
  | 0, _ => exact ⟨5, 2, rfl, rfl, ⟨by decide, by decide⟩, by decide, ⟨by decide, by decide⟩⟩
  | 1, _ => exact ⟨7, 4, rfl, rfl, ⟨by decide, by decide⟩, by decide, ⟨by decide, by decide⟩⟩
  | 2, _ => exact ⟨-5, -2, rfl, rfl, ⟨by decide, by decide⟩, by decide, ⟨by decide, by decide⟩⟩
  | 3, _ => exact ⟨-7, -4, rfl, rfl, ⟨by decide, by decide⟩, by decide, ⟨by decide, by decide⟩⟩

theorem grown_of_below {w w' : World} (h : Below w.heap.size w w') (row : Option Nat) : w.grownBy w' row := ⟨h.os, h.tape, h.output, h.size, fun k hk _ => h.block k hk⟩
theorem kept_row {w w' : World} {base : Nat} {e : TypeId} {size n : Nat} {v : Value} {xs : List Value} (h : w.ownsRow base e size v n xs) (hb : Below w.heap.size w w') : w'.ownsRow base e size v n xs := by
  refine h.kept (row := none) (grown_of_below hb _) ?_
  cases hv : v.ownBlock with
  | none => exact Or.inl rfl
  | some g => exact Or.inr (fun h => by cases h)
/-- A row of ints that the call owns, as a slice that holds numbers. -/
theorem RI.of_own {w : World} {base n : Nat} {e : TypeId} {v : Value} {xs : List Int} (h : w.ownsRow base e 1 v n (xs.map (Value.int .i64))) (hn : 0 < n) : ∃ A c, v = .slice A n c ∧ RI w A n xs := by
  obtain ⟨g, cap, hv, _, hlt⟩ := h.form hn
  refine ⟨_, _, hv, by have := h.1; simpa using this, fun k hk => ⟨g, 0, rfl, hlt, ?_⟩⟩
  have hc := h.cells (g := g) (by rw [hv]; rfl) k (.int .i64 (xs.getD k 0))
  have hl : k < xs.length := by have := h.1; simp at this; omega
  have := hc (by rw [List.getElem?_map, List.getElem?_eq_getElem hl, List.getD_eq_getElem?_getD, List.getElem?_eq_getElem hl]; rfl)
  have e0 : (⟨g, 0, none⟩ : Addr).add k = ⟨g, 0 + k, none⟩ := by
    unfold Addr.add; by_cases h0 : k = 0
    · subst h0; rfl
    · simp [h0]
  rw [e0] at this; exact this
theorem RI.new (w : World) : RI (w.alloc (.cells #[.int .i64 2, .int .i64 4, .int .i64 (-2), .int .i64 (-4)] 3)) (some ⟨w.heap.size, 0, none⟩) 4 rOut := by
  refine ⟨rfl, fun k hk => ⟨w.heap.size, 0, rfl, by simp, ?_⟩⟩
  match k, hk with
  | 0, _ => simp [go_sem, rOut]
  | 1, _ => simp [go_sem, rOut]
  | 2, _ => simp [go_sem, rOut]
  | 3, _ => simp [go_sem, rOut]
theorem Try.info_int : (Try.prog.info? 3).map (fun i => (i.zero, i.size, i.bytes)) = some (some (.int .i64 0), 1, 8) := by kernel_rfl

set_option maxHeartbeats 1000000 in
theorem runs_any (w : World) : Calls Try.prog 3 #[] w fun e w' => e = .returned (.bool true) ∧ Below w.heap.size w w' := by
  obtain ⟨i0, hi, hz0, hz1, hz2⟩ := info_parts Try.info_int
  go_enter Try.func3, Try.ntmps3
  go_wp2_with (first
    | (go_at_call 9; refine (runs_mul _).mono ?_; rintro e w1 ⟨rfl, hb1⟩)
    | (go_at_call 10; refine (runs_int _).mono ?_; rintro e w2 ⟨rfl, hb2⟩))
  have f1 := (new1 w1 (.int .i64 1) (.int .u64 0) 24)
  have f2 := keep1 hb2 f1
  have f3 : ∀ k v, rIn[k]? = some v → (w2.alloc (.cells #[.int .i64 5, .int .i64 7, .int .i64 (-5), .int .i64 (-7)] 3)).cell? ⟨w2.heap.size, k, none⟩ = some (.int .i64 v) := by
    intro k v hk
    match k, hk with
    | 0, hk => cases hk; simp [go_sem]
    | 1, hk => cases hk; simp [go_sem]
    | 2, hk => cases hk; simp [go_sem]
    | 3, hk => cases hk; simp [go_sem]
  have f4 : Below w.heap.size w (w2.alloc (.cells #[.int .i64 5, .int .i64 7, .int .i64 (-5), .int .i64 (-7)] 3)) := by
    have s1 := hb1.size; have s2 := hb2.size; simp at s2
    exact ((hb1.alloc (by omega) _).trans (hb2.mono (by simp; omega))).alloc (by omega) _
  have f5 := keep1 ((Below.refl w2.heap.size w2).alloc (Nat.le_refl _) (.cells #[.int .i64 5, .int .i64 7, .int .i64 (-5), .int .i64 (-7)] 3)) f2
  have f6 : w2.heap.size < (w2.alloc (.cells #[.int .i64 5, .int .i64 7, .int .i64 (-5), .int .i64 (-7)] 3)).heap.size := by simp
  clear f1 f2 hb1 hb2
  generalize w2.alloc (.cells #[.int .i64 5, .int .i64 7, .int .i64 (-5), .int .i64 (-7)] 3) = W at *
  generalize w2.heap.size = n2 at *
  generalize w1.heap.size = n1 at *
  have F3 := Lib.hid f3; have F5 := Lib.hid f5
  clear f3 f5
  go_loopw [4, 19] (fun v i wr => ∃ k : Nat, k ≤ 4 ∧ i = .int .i64 k ∧ wr.ownsRow W.heap.size 3 1 v k ((rOut.take k).map (Value.int .i64)) ∧ Below W.heap.size W wr) (fun _ i _ => 4 - (intOf i).toNat)
  case atStart => exact ⟨0, Nat.zero_le _, rfl, World.ownsRow_nil _ _ _ _, Below.refl _ _⟩
  case round =>
    obtain ⟨k, hk, rfl, hown, hb⟩ := hrel
    by_cases hlt : k < 4
    · obtain ⟨v, e, q1, q2, q3, q4, q5⟩ := runs_at k hlt
      have z : wr.cell? ⟨n2, k, none⟩ = some (.int .i64 v) := by rw [hb.cell (p := ⟨n2, k, none⟩) f6]; exact F3.out k v q1
      have Q2 := Lib.hid q2; have Q1 := Lib.hid q1
      have hq := fun w0 => quo_yes v 2 q3.W128 (by decide) (by decide) (by rw [q4]; exact q5) w0
      rw [q4] at hq
      have HQ := Lib.hid hq
      clear q1 q2 q4 hq
      go_wp2_with (first
        | (go_at_call 12; refine (of_any v q3 _).mono ?_; rintro e w3 ⟨rfl, hb3⟩)
        | (go_at_call 11; refine (HQ.out _).mono ?_; rintro e w4 ⟨rfl, hb4⟩)
        | (at_builtin; go_loud (refine wpList_append_own _ rfl _ _ 28 rfl W.heap.size 3 i0 (.int .i64 0) 1 8 Try.underlying28 hi hz0 hz1 hz2 rfl (by decide) _ _ _ rfl ((kept_row (kept_row hown hb3) hb4).alloc _) ⟨w4.heap.size, 0, none⟩ 1 1 [.int .i64 e] rfl rfl ?c1 ?c2 ?c3 ?c4 ?c5 ?_)))
      case c1 => exact cell_one_new _ _ _
      case c2 => intro u hu; simp at hu; subst hu; rfl
      case c3 => unfold maxLen; omega
      case c4 => omega
      case c5 => have := hb.size; have := hb3.size; have := hb4.size; simp; omega
      intro v' w5 hown' hgrow _
      have hb5 : Below W.heap.size W w5 := by
        have s1 := hb.size; have s3 := hb3.size; have s4 := hb4.size
        refine Below.grown (((hb.trans (hb3.mono s1)).trans (hb4.mono (by omega))).alloc (by omega) (.cells #[.int .i64 e] 3)) hgrow (by simp; omega) (fun g hg => (hown.lt g hg).1)
      go_wp2
      go_roundw
      case rel => exact ⟨k + 1, by omega, by go_num, by rw [Q2.out, List.map_append, List.map_take]; exact hown', hb5⟩
      case measure => simp [intOf]; omega
    · obtain rfl : k = 4 := by omega
      have R := RI.of_own (xs := rOut) hown (by decide)
      obtain ⟨A, c, rfl, hR⟩ := R
      have g1 := hb.size
      go_wp2_with (first
        | (go_at_call 9; refine (runs_mul6 _).mono ?_; rintro e w3 ⟨rfl, hb3⟩)
        | (go_at_call 11; refine (runs_quo8 _).mono ?_; rintro e w4 ⟨rfl, hb4⟩; obtain ⟨y1, y2, y3⟩ := keep1 hb4 (keep1 hb3 (keep1 (hb.mono (Nat.le_refl _)) F5.out))))
      have hRA := ((hR.below hb3).below hb4).below ((Below.refl w4.heap.size w4).alloc (Nat.le_refl _) (.cells #[.int .i64 2, .int .i64 4, .int .i64 (-2), .int .i64 (-4)] 3))
      refine (same_yes _ _ 4 _ _ rOut _ (by decide) hRA (RI.new w4)).mono ?_
      rintro e w5 ⟨rfl, hb5⟩
      go_wp2
      go_ret
      have s1 := f4.size; have s2 := hb3.size; have s3 := hb4.size
      exact ⟨rfl, ((((f4.trans (hb.mono s1)).trans (hb3.mono (by omega))).trans (hb4.mono (by omega))).alloc (by omega) _).trans (hb5.mono (by simp; omega))⟩
end Go.Proofs.Ytnjegjmcfldpnaa
