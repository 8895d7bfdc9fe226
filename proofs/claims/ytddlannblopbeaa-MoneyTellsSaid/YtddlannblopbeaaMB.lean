/-
  Contracts of money.Scale, of a Sum's Value and of the document's own Scale and Int (sheafref1), each by one sentence: both sides answer alike, for every argument of their types; nothing that was in memory turns.
-/
import Derived.Test.YtddlannblopbeaaMA
import Derived.Test.YtddlannblopbeaaRefB
import Derived.Test.YtddlannblopbeaaRefC
namespace Go.Proofs.Ytddlannblopbeaa
set_option linter.unusedVariables false
set_option linter.unusedSimpArgs false
open Go.RowKit

instance (n : Int) : Decidable (I64 n) := by unfold I64; exact inferInstance
/-- What Scale answers. -/
def scaleB (n m d : Int) : Bool := decide (0 < d) && decide (I64 (nearS (n * m) d))
def scaleV (n m d : Int) : Int := if scaleB n m d then nearS (n * m) d else 0
/-- What a wide number is as an int. -/
def intB (v : Int) : Bool := decide (I64 v)
def intV (v : Int) : Int := if intB v then v else 0

theorem scale_cases (n m d : Int) : (d ≤ 0 ∧ scaleB n m d = false ∧ scaleV n m d = 0) ∨ (0 < d ∧ I64 (nearS (n * m) d) ∧ scaleB n m d = true ∧ scaleV n m d = nearS (n * m) d) ∨ (0 < d ∧ ¬ I64 (nearS (n * m) d) ∧ scaleB n m d = false ∧ scaleV n m d = 0) := by
  by_cases h : 0 < d
  · by_cases g : I64 (nearS (n * m) d)
    · have e : scaleB n m d = true := by unfold scaleB; simp [h, g]
      exact Or.inr (Or.inl ⟨h, g, e, by unfold scaleV; simp [e]⟩)
    · have e : scaleB n m d = false := by unfold scaleB; simp [g]
      exact Or.inr (Or.inr ⟨h, g, e, by unfold scaleV; simp [e]⟩)
  · have e : scaleB n m d = false := by unfold scaleB; simp [h]
    exact Or.inl ⟨by omega, e, by unfold scaleV; simp [e]⟩
theorem scale_any (n m d : Int) (hn : I64 n) (hm : I64 m) (hd : I64 d) (w : World) :
    Calls Try.prog 8 #[.int .i64 n, .int .i64 m, .int .i64 d] w fun e w' => e = .returned (.tuple #[.int .i64 (scaleV n m d), .bool (scaleB n m d)]) ∧ Below w.heap.size w w' := by
  rcases scale_cases n m d with ⟨h, e1, e2⟩ | ⟨h, g, e1, e2⟩ | ⟨h, g, e1, e2⟩
  · rw [e1, e2]; exact scale_bad n m d hn hm h w
  · rw [e1, e2]; exact scale_yes n m d _ hn hm h hd.2 rfl g w
  · rw [e1, e2]; exact scale_no n m d hn hm h hd.2 g w
theorem svalue_any (v : Int) (h : W128 v) (b : Nat) (w : World) (hc : Cell2 w b (.int .i64 (hiW v)) (.int .u64 (loW v))) :
    Calls Try.prog 11 #[.pointer (some ⟨b, 0, none⟩)] w fun e w' => e = .returned (.tuple #[.int .i64 (intV v), .bool (intB v)]) ∧ Below w.heap.size w w' := by
  by_cases g : I64 v
  · have e : intB v = true := by unfold intB; simp [g]
    have f : intV v = v := by unfold intV; simp [e]
    rw [e, f]; exact svalue_yes v g b w hc
  · have e : intB v = false := by unfold intB; simp [g]
    have f : intV v = 0 := by unfold intV; simp [e]
    rw [e, f]; exact svalue_no v h g b w hc
theorem rint_any (v : Int) (h : W128 v) (w : World) :
    Calls Try.prog 15 #[.agg #[.int .i64 (hiW v), .int .u64 (loW v)]] w fun e w' => e = .returned (.tuple #[.int .i64 (intV v), .bool (intB v)]) ∧ Below w.heap.size w w' := by
  by_cases g : I64 v
  · have e : intB v = true := by unfold intB; simp [g]
    have f : intV v = v := by unfold intV; simp [e]
    rw [e, f]; exact rint_yes v g w
  · have e : intB v = false := by unfold intB; simp [g]
    have f : intV v = 0 := by unfold intV; simp [e]
    rw [e, f]; exact rint_no v h g w
theorem rquo_any (x n m d : Int) (hx : x = n * m) (h1 : -170141183460469231731687303715884105726 < x) (h2 : x < 170141183460469231731687303715884105726) (hd : I64 d) (w : World) :
    Calls Try.prog 25 #[.agg #[.int .i64 (hiW x), .int .u64 (loW x)], .int .i64 d] w fun e w' => e = .returned (.tuple #[.int .i64 (scaleV n m d), .bool (scaleB n m d)]) ∧ Below w.heap.size w w' := by
  subst hx
  rcases scale_cases n m d with ⟨h, e1, e2⟩ | ⟨h, g, e1, e2⟩ | ⟨h, g, e1, e2⟩
  · rw [e1, e2]; exact rquo_bad _ d h w
  · rw [e1, e2]
    by_cases hs : n * m < 0
    · refine (rquo_neg (n * m) d hs h1 h hd.2 w).mono ?_
      rintro e w' ⟨⟨k1, k2⟩, b⟩
      have en : nearS (n * m) d = -near (-(n * m)) d := if_pos hs
      rw [en] at g ⊢
      exact ⟨k1 g, b⟩
    · refine (rquo_pos (n * m) d (by omega) h2 h hd.2 w).mono ?_
      rintro e w' ⟨⟨k1, k2⟩, b⟩
      have en : nearS (n * m) d = near (n * m) d := if_neg hs
      rw [en] at g ⊢
      exact ⟨k1 g, b⟩
  · rw [e1, e2]
    by_cases hs : n * m < 0
    · refine (rquo_neg (n * m) d hs h1 h hd.2 w).mono ?_
      rintro e w' ⟨⟨k1, k2⟩, b⟩
      have en : nearS (n * m) d = -near (-(n * m)) d := if_pos hs
      rw [en] at g
      exact ⟨k2 g, b⟩
    · refine (rquo_pos (n * m) d (by omega) h2 h hd.2 w).mono ?_
      rintro e w' ⟨⟨k1, k2⟩, b⟩
      have en : nearS (n * m) d = near (n * m) d := if_neg hs
      rw [en] at g
      exact ⟨k2 g, b⟩
theorem rscale_any (n m d : Int) (hn : I64 n) (hm : I64 m) (hd : I64 d) (w : World) :
    Calls Try.prog 12 #[.int .i64 n, .int .i64 m, .int .i64 d] w fun e w' => e = .returned (.tuple #[.int .i64 (scaleV n m d), .bool (scaleB n m d)]) ∧ Below w.heap.size w w' := by
  have hb := prod_bd hn hm
  have k := fun w0 => rquo_any (n * m) n m d rfl (by omega) (by omega) hd w0
  generalize scaleV n m d = V at *
  generalize scaleB n m d = B at *
  go_enter Try.func12, Try.ntmps12
  go_wp2_with fail
  refine (rmul_any n m hn hm _).mono ?_
  rintro e w1 ⟨rfl, b1⟩
  generalize n * m = P at *
  go_wp2_with fail
  refine (k _).mono ?_
  rintro e w2 ⟨rfl, b2⟩
  go_wp2
  go_ret2
  exact ⟨rfl, bstep b1 b2⟩
end Go.Proofs.Ytddlannblopbeaa
