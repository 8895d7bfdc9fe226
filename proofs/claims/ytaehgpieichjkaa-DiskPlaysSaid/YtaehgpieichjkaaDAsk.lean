/-
  A list of asks as it came in.
-/
import Derived.Test.YtaehgpieichjkaaCrcW
import Derived.Test.YtaehgpieichjkaaWNum
namespace Go.Proofs.Ytaehgpieichjkaa
set_option linter.unusedVariables false
set_option linter.unusedSimpArgs false
open Go.RowKit

def U32 (x : Int) : Prop := 0 ≤ x ∧ x ≤ 4294967295
structure AskD where
  kind : Int
  i : Int
  a : Int
  n : Int
  x : Int
  by_ : Int
  hA : Option Addr
  hn : Nat
  hc : Nat
  how : List Int
  short : Bool
/-- A list of asks: their cells, in blocks that were there in w0. -/
def AskR (w0 : World) (A : Option Addr) (len : Nat) (f : Nat → AskD) : Prop :=
  ∀ k, k < len → ∃ b o, A = some ⟨b, o, none⟩ ∧ b < w0.heap.size ∧
    w0.cell? ⟨b, o + k * 8, none⟩ = some (.int .i64 (f k).kind) ∧ w0.cell? ⟨b, o + k * 8 + 1, none⟩ = some (.int .i64 (f k).i) ∧ w0.cell? ⟨b, o + k * 8 + 2, none⟩ = some (.int .i64 (f k).a) ∧ w0.cell? ⟨b, o + k * 8 + 3, none⟩ = some (.int .i64 (f k).n) ∧
    w0.cell? ⟨b, o + k * 8 + 4, none⟩ = some (.int .u8 (f k).x) ∧ w0.cell? ⟨b, o + k * 8 + 5, none⟩ = some (.int .u32 (f k).by_) ∧ w0.cell? ⟨b, o + k * 8 + 6, none⟩ = some (.slice (f k).hA (f k).hn (f k).hc) ∧ w0.cell? ⟨b, o + k * 8 + 7, none⟩ = some (.bool (f k).short) ∧
    (I64 (f k).kind ∧ I64 (f k).i ∧ I64 (f k).a ∧ I64 (f k).n ∧ U8 (f k).x ∧ U32 (f k).by_) ∧
    (RdB w0 w0.heap.size (f k).hA (f k).how ∧ (f k).how.length = (f k).hn ∧ (f k).hn ≤ maxLen)
end Go.Proofs.Ytaehgpieichjkaa
