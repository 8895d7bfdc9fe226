/-
  No cell of these rows narrows 'for every input' (looked for: loops, veiled, ifaces, maps, wideKeys, modest, calm, conditions, laid).
  DERIVED. THE GIVEN ROWS OF THIS SEAT. 5 by the template 'for every input the law returns true; each argument reads behind the call as it read before'; 0 by the template 'total and deterministic' (their statements: YtjiigbmfbmkhjaaTotals.lean).
  GIVEN WITH THE SEED: the statements are not yours to turn. If you find one false, say at which input.
  Laid BY PROGRAM, IN A SANDBOX (cutbox-rows.mjs): the forced cells as the released guide's own fill.sh prints them over the translation 5f00cd9f6648129e… (all of the seat's roots in one cut). By AI agents, Wed Nov 11 2026. No macro, syntax, notation, axiom, sorry.
-/
import Derived.Test.YtjiigbmfbmkhjaaChecked
import GoSem.Claim
import GoSem.ClaimJoined
import GoSem.ClaimMapViews
import Derived.JoinedTies
import Derived.KernelRfl
namespace Go.Proofs.Ytjiigbmfbmkhjaa
/- THE CELL 'sum', in the pinned program and in every row, IS THE sha256 OF THE DUMP (.gsa) THAT YtjiigbmfbmkhjaaProg.lean LOADS. Nothing in Lean hashes anything: it is a label: what it is worth is what the hold of that sum in a sandbox is worth. -/
noncomputable def Try.pinned : Pinned := { name := "ytjiigbmfbmkhjaa", sum := "5f00cd9f6648129ee976447bff2133ddd528b318ac39bc78fd008593f119e217", checked := Try.checked }
namespace Rows
def none {H : Type} : Left H := { results := [], args := [] }

/-- 'sheaflaw6.CatalogRuns': WHATEVER THE INPUT: true; the input reads as it did. -/
def catalogRunsSpec : ChangeSpec := { name := "catalogRuns", fn := fun _ => fun
  | [] => { results := [.lit (.bool true)], args := [] }
  | _ => none }
def catalogRunsRow : OpenClaim := { program := "ytjiigbmfbmkhjaa", sum := "5f00cd9f6648129ee976447bff2133ddd528b318ac39bc78fd008593f119e217", func := "sheaf/sheaflaw6.CatalogRuns", spec := "catalogRuns", unfollowed := true, recurses := true, apart := false }
def CatalogRunsSaid : Prop := catalogRunsRow.holds Try.pinned (OpenSpec.ofChange catalogRunsSpec)

/-- ITS FALSE NEIGHBOUR: 'it returns false'. Refute it at one input. -/
def catalogRunsWrong : ChangeSpec := { name := "catalogRuns", fn := fun _ => fun
  | [] => { results := [.lit (.bool false)], args := [] }
  | _ => none }
def CatalogRunsWrongFalsely : Prop := catalogRunsRow.holds Try.pinned (OpenSpec.ofChange catalogRunsWrong)

/-- 'sheaflaw6.CatalogTells': WHATEVER THE INPUT: true; the input reads as it did. -/
def catalogTellsSpec : ChangeSpec := { name := "catalogTells", fn := fun _ => fun
  | [d1, d2, d3, d4, d5] => { results := [.lit (.bool true)], args := [d1, d2, d3, d4, d5] }
  | _ => none }
def catalogTellsRow : OpenClaim := { program := "ytjiigbmfbmkhjaa", sum := "5f00cd9f6648129ee976447bff2133ddd528b318ac39bc78fd008593f119e217", func := "sheaf/sheaflaw6.CatalogTells", spec := "catalogTells", unfollowed := true, recurses := true, apart := false }
def CatalogTellsSaid : Prop := catalogTellsRow.holds Try.pinned (OpenSpec.ofChange catalogTellsSpec)

/-- ITS FALSE NEIGHBOUR: 'it returns false'. Refute it at one input. -/
def catalogTellsWrong : ChangeSpec := { name := "catalogTells", fn := fun _ => fun
  | [d1, d2, d3, d4, d5] => { results := [.lit (.bool false)], args := [d1, d2, d3, d4, d5] }
  | _ => none }
def CatalogTellsWrongFalsely : Prop := catalogTellsRow.holds Try.pinned (OpenSpec.ofChange catalogTellsWrong)

/-- 'sheaflaw6.CatalogBack': WHATEVER THE INPUT: true; the input reads as it did. -/
def catalogBackSpec : ChangeSpec := { name := "catalogBack", fn := fun _ => fun
  | [d1, d2] => { results := [.lit (.bool true)], args := [d1, d2] }
  | _ => none }
def catalogBackRow : OpenClaim := { program := "ytjiigbmfbmkhjaa", sum := "5f00cd9f6648129ee976447bff2133ddd528b318ac39bc78fd008593f119e217", func := "sheaf/sheaflaw6.CatalogBack", spec := "catalogBack", unfollowed := true, recurses := true, apart := false }
def CatalogBackSaid : Prop := catalogBackRow.holds Try.pinned (OpenSpec.ofChange catalogBackSpec)

/-- ITS FALSE NEIGHBOUR: 'it returns false'. Refute it at one input. -/
def catalogBackWrong : ChangeSpec := { name := "catalogBack", fn := fun _ => fun
  | [d1, d2] => { results := [.lit (.bool false)], args := [d1, d2] }
  | _ => none }
def CatalogBackWrongFalsely : Prop := catalogBackRow.holds Try.pinned (OpenSpec.ofChange catalogBackWrong)

/-- 'sheaflaw6.CatalogWith': WHATEVER THE INPUT: true; the input reads as it did. -/
def catalogWithSpec : ChangeSpec := { name := "catalogWith", fn := fun _ => fun
  | [d1, d2, d3, d4] => { results := [.lit (.bool true)], args := [d1, d2, d3, d4] }
  | _ => none }
def catalogWithRow : OpenClaim := { program := "ytjiigbmfbmkhjaa", sum := "5f00cd9f6648129ee976447bff2133ddd528b318ac39bc78fd008593f119e217", func := "sheaf/sheaflaw6.CatalogWith", spec := "catalogWith", unfollowed := true, recurses := true, apart := false }
def CatalogWithSaid : Prop := catalogWithRow.holds Try.pinned (OpenSpec.ofChange catalogWithSpec)

/-- ITS FALSE NEIGHBOUR: 'it returns false'. Refute it at one input. -/
def catalogWithWrong : ChangeSpec := { name := "catalogWith", fn := fun _ => fun
  | [d1, d2, d3, d4] => { results := [.lit (.bool false)], args := [d1, d2, d3, d4] }
  | _ => none }
def CatalogWithWrongFalsely : Prop := catalogWithRow.holds Try.pinned (OpenSpec.ofChange catalogWithWrong)

/-- 'sheaflaw6.CatalogEdges': WHATEVER THE INPUT: true; the input reads as it did. -/
def catalogEdgesSpec : ChangeSpec := { name := "catalogEdges", fn := fun _ => fun
  | [d1, d2] => { results := [.lit (.bool true)], args := [d1, d2] }
  | _ => none }
def catalogEdgesRow : OpenClaim := { program := "ytjiigbmfbmkhjaa", sum := "5f00cd9f6648129ee976447bff2133ddd528b318ac39bc78fd008593f119e217", func := "sheaf/sheaflaw6.CatalogEdges", spec := "catalogEdges", unfollowed := true, recurses := true, apart := false }
def CatalogEdgesSaid : Prop := catalogEdgesRow.holds Try.pinned (OpenSpec.ofChange catalogEdgesSpec)

/-- ITS FALSE NEIGHBOUR: 'it returns false'. Refute it at one input. -/
def catalogEdgesWrong : ChangeSpec := { name := "catalogEdges", fn := fun _ => fun
  | [d1, d2] => { results := [.lit (.bool false)], args := [d1, d2] }
  | _ => none }
def CatalogEdgesWrongFalsely : Prop := catalogEdgesRow.holds Try.pinned (OpenSpec.ofChange catalogEdgesWrong)

/- THE SECOND FORM. 'bulk': how many values and letters a reading holds, each counted each time it is reached (what is shared counts as often as it is met; a slice's spare places count too). A statement '..UptoSaid' is the law's where the arguments, and the package variables that the reading takes, are together of bulk at most 1048576: NARROWER than '..Said'. Prove '..Said' where nothing that the law and all that it calls make is longer than what came in: it says more and counts as full. Else prove '..UptoSaid'. A law counts once. -/
mutual
def uptoBulk {H : Type} : DataW H → Nat
  | .lit (.string bytes) => bytes.length + 1
  | .lit _ => 1
  | .nil => 1
  | .ptr d => uptoBulk d + 1
  | .slice elems spare => uptoBulkAll elems + uptoBulkAll spare + 1
  | .agg parts => uptoBulkAll parts + 1
  | .iface _ d => uptoBulk d + 1
  | .map entries => uptoBulkEntries entries + 1
  | .held _ => 1
def uptoBulkAll {H : Type} : List (DataW H) → Nat
  | [] => 0
  | d :: r => uptoBulk d + uptoBulkAll r
def uptoBulkEntries {H : Type} : List (Lit × DataW H) → Nat
  | [] => 0
  | x :: r => uptoBulkEntry x + uptoBulkEntries r
def uptoBulkEntry {H : Type} : Lit × DataW H → Nat
  | (.string bytes, d) => bytes.length + uptoBulk d + 1
  | (_, d) => uptoBulk d + 1
 end
def uptoSmall : (H : Type) → List (DataW H) → Bool := fun _ ds => decide (uptoBulkAll ds ≤ 1048576)
def OpenSpec.upto (s : _root_.Go.ChangeSpec) : _root_.Go.OpenSpec := { _root_.Go.OpenSpec.ofChange s with cond := some uptoSmall }

/-- 'sheaflaw6.CatalogRuns', WHERE WHAT IT READS IS OF BULK AT MOST 1048576: true; the input reads as it did. -/
def catalogRunsUptoRow : OpenClaim := { program := "ytjiigbmfbmkhjaa", sum := "5f00cd9f6648129ee976447bff2133ddd528b318ac39bc78fd008593f119e217", func := "sheaf/sheaflaw6.CatalogRuns", spec := "catalogRuns", unfollowed := true, recurses := true, apart := false, narrowed := true }
def CatalogRunsUptoSaid : Prop := catalogRunsUptoRow.holds Try.pinned (OpenSpec.upto catalogRunsSpec)

/-- 'sheaflaw6.CatalogTells', WHERE WHAT IT READS IS OF BULK AT MOST 1048576: true; the input reads as it did. -/
def catalogTellsUptoRow : OpenClaim := { program := "ytjiigbmfbmkhjaa", sum := "5f00cd9f6648129ee976447bff2133ddd528b318ac39bc78fd008593f119e217", func := "sheaf/sheaflaw6.CatalogTells", spec := "catalogTells", unfollowed := true, recurses := true, apart := false, narrowed := true }
def CatalogTellsUptoSaid : Prop := catalogTellsUptoRow.holds Try.pinned (OpenSpec.upto catalogTellsSpec)

/-- 'sheaflaw6.CatalogBack', WHERE WHAT IT READS IS OF BULK AT MOST 1048576: true; the input reads as it did. -/
def catalogBackUptoRow : OpenClaim := { program := "ytjiigbmfbmkhjaa", sum := "5f00cd9f6648129ee976447bff2133ddd528b318ac39bc78fd008593f119e217", func := "sheaf/sheaflaw6.CatalogBack", spec := "catalogBack", unfollowed := true, recurses := true, apart := false, narrowed := true }
def CatalogBackUptoSaid : Prop := catalogBackUptoRow.holds Try.pinned (OpenSpec.upto catalogBackSpec)

/-- 'sheaflaw6.CatalogWith', WHERE WHAT IT READS IS OF BULK AT MOST 1048576: true; the input reads as it did. -/
def catalogWithUptoRow : OpenClaim := { program := "ytjiigbmfbmkhjaa", sum := "5f00cd9f6648129ee976447bff2133ddd528b318ac39bc78fd008593f119e217", func := "sheaf/sheaflaw6.CatalogWith", spec := "catalogWith", unfollowed := true, recurses := true, apart := false, narrowed := true }
def CatalogWithUptoSaid : Prop := catalogWithUptoRow.holds Try.pinned (OpenSpec.upto catalogWithSpec)

/-- 'sheaflaw6.CatalogEdges', WHERE WHAT IT READS IS OF BULK AT MOST 1048576: true; the input reads as it did. -/
def catalogEdgesUptoRow : OpenClaim := { program := "ytjiigbmfbmkhjaa", sum := "5f00cd9f6648129ee976447bff2133ddd528b318ac39bc78fd008593f119e217", func := "sheaf/sheaflaw6.CatalogEdges", spec := "catalogEdges", unfollowed := true, recurses := true, apart := false, narrowed := true }
def CatalogEdgesUptoSaid : Prop := catalogEdgesUptoRow.holds Try.pinned (OpenSpec.upto catalogEdgesSpec)

end Rows
end Go.Proofs.Ytjiigbmfbmkhjaa
