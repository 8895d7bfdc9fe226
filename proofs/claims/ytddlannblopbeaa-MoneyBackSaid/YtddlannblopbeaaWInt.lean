/-
  The contract of wide.Int: it returns the number and true, if it is an int, else 0 and false; nothing that was in memory turns.
-/
import Derived.Test.YtddlannblopbeaaWMul
import Derived.Deep.RegionHeld3
namespace Go.Proofs.Ytddlannblopbeaa
set_option linter.unusedVariables false
set_option linter.unusedSimpArgs false
open Go.RowKit

theorem int_forms (x : Int) : I64 (wrap64 (loW x)) ∧ (I64 x → wrap64 (loW x) = x) ∧ (W128 x → ¬ I64 x → (hiW (wrap64 (loW x)) == hiW x) = false) := by
  refine ⟨?_, ?_, ?_⟩
  · unfold I64 wrap64; omega
  · unfold I64 wrap64 loW; omega
  · intro h hn
    rw [hiW_of h]
    simp only [beq_eq_false_iff_ne, ne_eq]
    unfold I64 at hn; unfold W128 at h; unfold hiW wrap64 loW; omega
set_option maxHeartbeats 400000 in
theorem int_yes (x : Int) (h : I64 x) (w : World) :
    Calls Try.prog 24 #[.agg #[.int .i64 (hiW x), .int .u64 (loW x)]] w fun e w' => e = .returned (.tuple #[.int .i64 x, .bool true]) ∧ Below w.heap.size w w' := by
  have e1 := (int_forms x).2.1 h
  go_enter Try.func24, Try.ntmps24
  go_wp2
  go_region_held3 (fun w' => w.heap.size < w'.heap.size ∧ w'.cell? ⟨w.heap.size, 0, none⟩ = some (.int .i64 (hiW x)) ∧ w'.cell? ⟨w.heap.size, 1, none⟩ = some (.int .u64 (loW x))) (first | exact keep1 ‹Below _ _ _› ‹_ ∧ _› | (simp [go_sem, World.cell?_alloc_past]; done))
    (first
      | (go_at_call 23; refine (of_any x h _).mono ?_; rintro e w' ⟨rfl, hb⟩))
  go_wp2
  go_ret2
  exact ⟨rfl, ((Below.refl _ _).alloc (Nat.le_refl _) _).drew.trans (hb.mono (by simp))⟩
set_option maxHeartbeats 400000 in
theorem int_no (x : Int) (hx : W128 x) (h : ¬ I64 x) (w : World) :
    Calls Try.prog 24 #[.agg #[.int .i64 (hiW x), .int .u64 (loW x)]] w fun e w' => e = .returned (.tuple #[.int .i64 0, .bool false]) ∧ Below w.heap.size w w' := by
  obtain ⟨e1, _, e2⟩ := int_forms x
  replace e2 := e2 hx h
  go_enter Try.func24, Try.ntmps24
  go_wp2
  go_region_held3 (fun w' => w.heap.size < w'.heap.size ∧ w'.cell? ⟨w.heap.size, 0, none⟩ = some (.int .i64 (hiW x)) ∧ w'.cell? ⟨w.heap.size, 1, none⟩ = some (.int .u64 (loW x))) (first | exact keep1 ‹Below _ _ _› ‹_ ∧ _› | (simp [go_sem, World.cell?_alloc_past]; done))
    (first
      | (go_at_call 23; refine (of_any _ e1 _).mono ?_; rintro e w' ⟨rfl, hb⟩))
  go_wp2
  go_ret2
  exact ⟨rfl, ((Below.refl _ _).alloc (Nat.le_refl _) _).drew.trans (hb.mono (by simp))⟩
end Go.Proofs.Ytddlannblopbeaa
