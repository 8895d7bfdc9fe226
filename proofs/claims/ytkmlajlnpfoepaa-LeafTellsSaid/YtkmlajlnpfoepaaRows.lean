/-
  No cell of these rows narrows 'for every input' (looked for: loops, veiled, ifaces, maps, wideKeys, modest, calm, conditions, laid).
  DERIVED. THE GIVEN ROWS OF THIS SEAT. 4 by the template 'for every input the law returns true; each argument reads behind the call as it read before'; 0 by the template 'total and deterministic' (their statements: YtkmlajlnpfoepaaTotals.lean).
  GIVEN WITH THE SEED: the statements are not yours to turn. If you find one false, say at which input.
  Laid BY PROGRAM, IN A SANDBOX (cutbox-rows.mjs): the forced cells as the released guide's own fill.sh prints them over the translation 39d7a54aa47406fb… (all of the seat's roots in one cut). By AI agents, Wed Nov 11 2026. No macro, syntax, notation, axiom, sorry.
-/
import Derived.Test.YtkmlajlnpfoepaaChecked
import GoSem.Claim
import GoSem.ClaimJoined
import GoSem.ClaimMapViews
import Derived.JoinedTies
import Derived.KernelRfl
namespace Go.Proofs.Ytkmlajlnpfoepaa
/- THE CELL 'sum', in the pinned program and in every row, IS THE sha256 OF THE DUMP (.gsa) THAT YtkmlajlnpfoepaaProg.lean LOADS. Nothing in Lean hashes anything: it is a label: what it is worth is what the hold of that sum in a sandbox is worth. -/
noncomputable def Try.pinned : Pinned := { name := "ytkmlajlnpfoepaa", sum := "39d7a54aa47406fb5d5b9618d8c3b8a7c0e48a18beda2b034c0ae8c423225526", checked := Try.checked }
namespace Rows
def none {H : Type} : Left H := { results := [], args := [] }

/-- 'sheaflaw5.LeafRuns': WHATEVER THE INPUT: true; the input reads as it did. -/
def leafRunsSpec : ChangeSpec := { name := "leafRuns", fn := fun _ => fun
  | [] => { results := [.lit (.bool true)], args := [] }
  | _ => none }
def leafRunsRow : OpenClaim := { program := "ytkmlajlnpfoepaa", sum := "39d7a54aa47406fb5d5b9618d8c3b8a7c0e48a18beda2b034c0ae8c423225526", func := "sheaf/sheaflaw5.LeafRuns", spec := "leafRuns", apart := false }
def LeafRunsSaid : Prop := leafRunsRow.holds Try.pinned (OpenSpec.ofChange leafRunsSpec)

/-- ITS FALSE NEIGHBOUR: 'it returns false'. Refute it at one input. -/
def leafRunsWrong : ChangeSpec := { name := "leafRuns", fn := fun _ => fun
  | [] => { results := [.lit (.bool false)], args := [] }
  | _ => none }
def LeafRunsWrongFalsely : Prop := leafRunsRow.holds Try.pinned (OpenSpec.ofChange leafRunsWrong)

/-- 'sheaflaw5.LeafTells': WHATEVER THE INPUT: true; the input reads as it did. -/
def leafTellsSpec : ChangeSpec := { name := "leafTells", fn := fun _ => fun
  | [d1, d2, d3, d4] => { results := [.lit (.bool true)], args := [d1, d2, d3, d4] }
  | _ => none }
def leafTellsRow : OpenClaim := { program := "ytkmlajlnpfoepaa", sum := "39d7a54aa47406fb5d5b9618d8c3b8a7c0e48a18beda2b034c0ae8c423225526", func := "sheaf/sheaflaw5.LeafTells", spec := "leafTells", apart := false }
def LeafTellsSaid : Prop := leafTellsRow.holds Try.pinned (OpenSpec.ofChange leafTellsSpec)

/-- ITS FALSE NEIGHBOUR: 'it returns false'. Refute it at one input. -/
def leafTellsWrong : ChangeSpec := { name := "leafTells", fn := fun _ => fun
  | [d1, d2, d3, d4] => { results := [.lit (.bool false)], args := [d1, d2, d3, d4] }
  | _ => none }
def LeafTellsWrongFalsely : Prop := leafTellsRow.holds Try.pinned (OpenSpec.ofChange leafTellsWrong)

/-- 'sheaflaw5.LeafBurst': WHATEVER THE INPUT: true; the input reads as it did. -/
def leafBurstSpec : ChangeSpec := { name := "leafBurst", fn := fun _ => fun
  | [d1, d2, d3, d4] => { results := [.lit (.bool true)], args := [d1, d2, d3, d4] }
  | _ => none }
def leafBurstRow : OpenClaim := { program := "ytkmlajlnpfoepaa", sum := "39d7a54aa47406fb5d5b9618d8c3b8a7c0e48a18beda2b034c0ae8c423225526", func := "sheaf/sheaflaw5.LeafBurst", spec := "leafBurst", apart := false }
def LeafBurstSaid : Prop := leafBurstRow.holds Try.pinned (OpenSpec.ofChange leafBurstSpec)

/-- ITS FALSE NEIGHBOUR: 'it returns false'. Refute it at one input. -/
def leafBurstWrong : ChangeSpec := { name := "leafBurst", fn := fun _ => fun
  | [d1, d2, d3, d4] => { results := [.lit (.bool false)], args := [d1, d2, d3, d4] }
  | _ => none }
def LeafBurstWrongFalsely : Prop := leafBurstRow.holds Try.pinned (OpenSpec.ofChange leafBurstWrong)

/-- 'sheaflaw5.LeafEdges': WHATEVER THE INPUT: true; the input reads as it did. -/
def leafEdgesSpec : ChangeSpec := { name := "leafEdges", fn := fun _ => fun
  | [d1, d2, d3] => { results := [.lit (.bool true)], args := [d1, d2, d3] }
  | _ => none }
def leafEdgesRow : OpenClaim := { program := "ytkmlajlnpfoepaa", sum := "39d7a54aa47406fb5d5b9618d8c3b8a7c0e48a18beda2b034c0ae8c423225526", func := "sheaf/sheaflaw5.LeafEdges", spec := "leafEdges", apart := false }
def LeafEdgesSaid : Prop := leafEdgesRow.holds Try.pinned (OpenSpec.ofChange leafEdgesSpec)

/-- ITS FALSE NEIGHBOUR: 'it returns false'. Refute it at one input. -/
def leafEdgesWrong : ChangeSpec := { name := "leafEdges", fn := fun _ => fun
  | [d1, d2, d3] => { results := [.lit (.bool false)], args := [d1, d2, d3] }
  | _ => none }
def LeafEdgesWrongFalsely : Prop := leafEdgesRow.holds Try.pinned (OpenSpec.ofChange leafEdgesWrong)

/- THE SECOND FORM. 'bulk': how many values and letters a reading holds, each counted each time it is reached (what is shared counts as often as it is met; a slice's spare places count too). A statement '..UptoSaid' is the law's where the arguments, and the package variables that the reading takes, are together of bulk at most 1048576: NARROWER than '..Said'. Prove '..Said' where nothing that the law and all that it calls make is longer than what came in: it says more and counts as full. Else prove '..UptoSaid'. A law counts once. -/
mutual
def uptoBulk {H : Type} : DataW H → Nat
  | .lit (.string bytes) => bytes.length + 1
  | .lit _ => 1
  | .nil => 1
  | .ptr d => uptoBulk d + 1
  | .slice elems spare => uptoBulkAll elems + uptoBulkAll spare + 1
  | .agg parts => uptoBulkAll parts + 1
  | .iface _ d => uptoBulk d + 1
  | .map entries => uptoBulkEntries entries + 1
  | .held _ => 1
def uptoBulkAll {H : Type} : List (DataW H) → Nat
  | [] => 0
  | d :: r => uptoBulk d + uptoBulkAll r
def uptoBulkEntries {H : Type} : List (Lit × DataW H) → Nat
  | [] => 0
  | x :: r => uptoBulkEntry x + uptoBulkEntries r
def uptoBulkEntry {H : Type} : Lit × DataW H → Nat
  | (.string bytes, d) => bytes.length + uptoBulk d + 1
  | (_, d) => uptoBulk d + 1
 end
def uptoSmall : (H : Type) → List (DataW H) → Bool := fun _ ds => decide (uptoBulkAll ds ≤ 1048576)
def OpenSpec.upto (s : _root_.Go.ChangeSpec) : _root_.Go.OpenSpec := { _root_.Go.OpenSpec.ofChange s with cond := some uptoSmall }

/-- 'sheaflaw5.LeafRuns', WHERE WHAT IT READS IS OF BULK AT MOST 1048576: true; the input reads as it did. -/
def leafRunsUptoRow : OpenClaim := { program := "ytkmlajlnpfoepaa", sum := "39d7a54aa47406fb5d5b9618d8c3b8a7c0e48a18beda2b034c0ae8c423225526", func := "sheaf/sheaflaw5.LeafRuns", spec := "leafRuns", apart := false, narrowed := true }
def LeafRunsUptoSaid : Prop := leafRunsUptoRow.holds Try.pinned (OpenSpec.upto leafRunsSpec)

/-- 'sheaflaw5.LeafTells', WHERE WHAT IT READS IS OF BULK AT MOST 1048576: true; the input reads as it did. -/
def leafTellsUptoRow : OpenClaim := { program := "ytkmlajlnpfoepaa", sum := "39d7a54aa47406fb5d5b9618d8c3b8a7c0e48a18beda2b034c0ae8c423225526", func := "sheaf/sheaflaw5.LeafTells", spec := "leafTells", apart := false, narrowed := true }
def LeafTellsUptoSaid : Prop := leafTellsUptoRow.holds Try.pinned (OpenSpec.upto leafTellsSpec)

/-- 'sheaflaw5.LeafBurst', WHERE WHAT IT READS IS OF BULK AT MOST 1048576: true; the input reads as it did. -/
def leafBurstUptoRow : OpenClaim := { program := "ytkmlajlnpfoepaa", sum := "39d7a54aa47406fb5d5b9618d8c3b8a7c0e48a18beda2b034c0ae8c423225526", func := "sheaf/sheaflaw5.LeafBurst", spec := "leafBurst", apart := false, narrowed := true }
def LeafBurstUptoSaid : Prop := leafBurstUptoRow.holds Try.pinned (OpenSpec.upto leafBurstSpec)

/-- 'sheaflaw5.LeafEdges', WHERE WHAT IT READS IS OF BULK AT MOST 1048576: true; the input reads as it did. -/
def leafEdgesUptoRow : OpenClaim := { program := "ytkmlajlnpfoepaa", sum := "39d7a54aa47406fb5d5b9618d8c3b8a7c0e48a18beda2b034c0ae8c423225526", func := "sheaf/sheaflaw5.LeafEdges", spec := "leafEdges", apart := false, narrowed := true }
def LeafEdgesUptoSaid : Prop := leafEdgesUptoRow.holds Try.pinned (OpenSpec.upto leafEdgesSpec)

end Rows
end Go.Proofs.Ytkmlajlnpfoepaa
