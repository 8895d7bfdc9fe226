/-
  The contracts of package heap's functions for things of ints.
-/
import Derived.Test.YtkgjbmlgbfejlaaHc
import Derived.Test.YtkgjbmlgbfejlaaChecked
import Derived.BigQuiet
import Derived.BigRegion
import Derived.Deep.QuietTactic
import Derived.Lib.Hide
namespace Go.Proofs.Ytkgjbmlgbfejlaa
set_option linter.unusedVariables false
set_option linter.unusedSimpArgs false
set_option maxRecDepth 100000
open Go.RowKit

/-- Ints, the least first. -/
def HI.K : El Int := ⟨62, 57, 1, fun x => [.int .i64 x], fun x => x⟩
theorem HI.ok : ElOk HI.K where
  len _ := rfl
  one x u h := by
    simp only [HI.K] at h
    simp at h
    subst h; rfl
  under := Try.underlying57
  info := by
    obtain ⟨i, h1, h2, h3, h4⟩ := info_parts (P := Try.prog) (e := 62) (z := .agg #[.int .i64 0, .slice none 0 0]) (size := 1 + 1) (bytes := 32) (by kernel_rfl)
    refine ⟨i, _, h1, h2, h3, by rw [h4]; decide, rfl, ?_⟩
    intro u hu
    simp [Value.cells] at hu
    rcases hu with rfl | rfl <;> rfl
theorem HI.clear {w : World} {ops : Array Oper} {rs : List Oper} {o : Oper} {a : Act} {Q : Exit → Act → World → Prop} (hgd : o.guard = none) (x : Operand)
    (ho : o.op = .call { callee := .builtin .clear, args := #[x], argTypes := #[57] }) (g o1 m c1 : Nat) (hx : a.eval x = .slice (some ⟨g, o1, none⟩) m c1) (hm : 0 < m) (cur : Array Value) (hg : w.heap[g]? = some (.cells cur 62 (0, 0))) (hl : o1 + m * (1 + 1) ≤ cur.size)
    (h : ∀ w', Cl w w' g o1 (m * (1 + 1)) → wpList Try.prog ops Q rs (a.put o.dst (.tuple #[])) w') : wpList Try.prog ops Q (o :: rs) a w :=
  wpList_clear HI.ok hgd x ho g o1 m c1 hx hm cur hg hl (fun vs hv => h _ ⟨vs, hv, rfl⟩)
set_option maxHeartbeats 2000000 in
theorem HI.del_any (A : Option Addr) (n c k : Nat) (l : List (En Int)) (w : World) (h : Vw HI.K w A n c l) (hk : k ≤ n) (hn : n ≤ 1000000) :
    Calls Try.prog 27 #[.slice A n c, .int .i64 k, .int .i64 n] w fun e w' => e = .returned (.slice A k c) ∧ Vw HI.K w' A k c (l.take k) ∧ Keep (· ∈ blk A) w w' ∧ Out HI.K w w' A n := by
  have hcap := h.cap
  obtain ⟨hnc, hcm⟩ := hcap
  unfold maxLen at hcm
  have V := Lib.hid h
  by_cases hkn : k = n
  · subst hkn
    have T : Hid (l.take k = l) := Lib.hid (List.take_of_length_le (by rw [h.len]; exact Nat.le_refl _))
    clear h
    go_enter Try.func27, Try.ntmps27
    go_wp2
    all_goals (go_ret; exact ⟨rfl, by rw [T.out]; exact V.out, Keep.refl _ _, Out.of_same V.out (fun _ _ => rfl)⟩)
  · have hlt : k < n := by omega
    obtain ⟨g, o, cur, rfl, hg, hsz⟩ := h.some_of (by omega)
    have D := Lib.hid (fun vs hv => Vw.cleared HI.ok (h.below (Below.refl _ w).drew) hlt vs hv)
    have HG := Lib.hid hg
    clear h hg
    have d1 : decide ((k : Int) = (n : Int)) = false := by rw [decide_eq_false_iff_not]; omega
    have d2 : ((k : Int) == (n : Int)) = false := by rw [beq_eq_false_iff_ne]; omega
    have e1 : (c = k) = False := by simp; omega
    have kc : k ≤ c := by omega
    clear hkn
    go_enter Try.func27, Try.ntmps27
    go_wp2
    go_region_law (refine step_app_none HI.ok (by rfl) _ _ (by rfl) (some ⟨g, o, none⟩) _ k c _ _ (by rfl) (by rfl) (by simp) (by omega) ?_)
    have hszn : n * (1 + 1) ≤ c * (1 + 1) := Nat.mul_le_mul_right _ hnc
    have hszk : k * (1 + 1) + (n - k) * (1 + 1) = n * (1 + 1) := by rw [← Nat.add_mul]; congr 1; omega
    have hsz' : o + c * (1 + 1) ≤ cur.size := hsz
    have HD : Hid (w.drew.heap[g]? = some (.cells cur 62 (0, 0))) := Lib.hid HG.out
    go_wp2_with (with_reducible refine HI.clear rfl _ rfl g _ _ _ rfl (by omega) cur HD.out (by omega) ?_)
    all_goals
      intro w' hcl
      obtain ⟨vs, hv, hw'⟩ := hcl
      obtain ⟨d1, d2, d3⟩ := D.out vs hv
      have hw2 : w' = w.drew.setCells g (o + k * (HI.K.z + 1)) vs := hw'
      clear hw'
      rw [← hw2] at d1 d2 d3
      have D1 := Lib.hid d1; have D2 := Lib.hid d2; have D3 := Lib.hid d3
      clear d1 d2 d3 hw2 hv
      go_wp2
      go_ret
      exact ⟨by first | rfl | (subst_vars; rfl), D1.out, (Keep.of_below (Below.refl _ w).drew).trans (Sub.refl _ _) D3.out, D2.out⟩
end Go.Proofs.Ytkgjbmlgbfejlaa
