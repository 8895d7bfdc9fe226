/-
  The walks of stage 3's statements, of arguments as they come in.
-/
import Derived.Test.YtikfjaimhmgajaaUTells
import Derived.Test.YtikfjaimhmgajaaUFound
import Derived.Test.YtikfjaimhmgajaaUApart
import Derived.Test.YtikfjaimhmgajaaUMoves
import Derived.Test.YtikfjaimhmgajaaUWf
namespace Go.Proofs.Ytikfjaimhmgajaa
set_option linter.unusedVariables false
set_option linter.unusedSimpArgs false
open Go.RowKit

/-- A slice of bytes that came in. -/
def RowB (w : World) (A : Option Addr) (len cap : Nat) (zs : List Int) : Prop :=
  (A = none ∧ len = 0 ∧ cap = 0 ∧ zs = []) ∨ ∃ x, A = some x ∧ len ≤ cap ∧ cap ≤ maxLen ∧ zs.length = cap ∧ (∀ i, i < zs.length → w.cell? (x.add i) = some (.int .u8 (zs.getD i 0))) ∧ ∀ n ∈ zs, (Lit.int .u8 n).wf = true
theorem tells_row {A : Option Addr} {len cap : Nat} {zs : List Int} {w : World} (h : RowB w A len cap zs) :
    Calls Try.prog 4 #[.slice A len cap] w fun e w' => e = .returned (.bool true) ∧ Below w.heap.size w w' := by
  obtain ⟨h1, h2, h3, h4, h5⟩ := rb_of h
  exact tells_any A len cap _ w h1 h2 h3 h4 h5
theorem found_row {A : Option Addr} {len cap : Nat} {zs : List Int} {t x : Int} {w : World} (h : RowB w A len cap zs) (ht : (Lit.int .i64 t).wf = true) (hx : (Lit.int .u32 x).wf = true) :
    Calls Try.prog 5 #[.slice A len cap, .int .i64 t, .int .u32 x] w fun e w' => e = .returned (.bool true) ∧ Below w.heap.size w w' := by
  obtain ⟨h1, h2, h3, h4, h5⟩ := rb_of h
  obtain ⟨X, rfl⟩ := wrd_of hx
  exact found_any A len cap _ t X w h1 h2 h3 h4 h5 (i64_of ht)
theorem apart_row {A B C : Option Addr} {la ca lb cb lc cc : Nat} {za zb zc : List Int} {t x : Int} {w : World} (ha : RowB w A la ca za) (hb : RowB w B lb cb zb) (hc : RowB w C lc cc zc) (ht : (Lit.int .i64 t).wf = true) (hx : (Lit.int .u32 x).wf = true) :
    Calls Try.prog 6 #[.slice A la ca, .slice B lb cb, .slice C lc cc, .int .i64 t, .int .u32 x] w fun e w' => e = .returned (.bool true) ∧ Below w.heap.size w w' := by
  obtain ⟨a1, a2, a3, a4, a5⟩ := rb_of ha
  obtain ⟨b1, b2, b3, b4, b5⟩ := rb_of hb
  obtain ⟨c1, c2, c3, c4, c5⟩ := rb_of hc
  obtain ⟨X, rfl⟩ := wrd_of hx
  exact apart_any A B C la ca lb cb lc cc _ _ _ t X w a1 b1 c1 a2 b2 c2 a3 a4 b3 b4 c3 c4 a5 (i64_of ht)
theorem moves_row {A : Option Addr} {len cap : Nat} {zs : List Int} {t x : Int} {w : World} (h : RowB w A len cap zs) (ht : (Lit.int .i64 t).wf = true) (hx : (Lit.int .u8 x).wf = true) :
    Calls Try.prog 7 #[.slice A len cap, .int .i64 t, .int .u8 x] w fun e w' => e = .returned (.bool true) ∧ Below w.heap.size w w' := by
  obtain ⟨h1, h2, h3, h4, h5⟩ := rb_of h
  exact moves_any A len cap _ t x w h1 h2 h3 h4 h5 (i64_of ht) (u8_of hx)
end Go.Proofs.Ytikfjaimhmgajaa
