/-
  No cell of these rows narrows 'for every input' (looked for: loops, veiled, ifaces, maps, wideKeys, modest, calm, conditions, laid).
  DERIVED. THE GIVEN ROWS OF THIS SEAT. 3 by the template 'for every input the law returns true; each argument reads behind the call as it read before'; 0 by the template 'total and deterministic' (their statements: YtkpckfmnjebjaaaTotals.lean).
  GIVEN WITH THE SEED: the statements are not yours to turn. If you find one false, say at which input.
  Laid BY PROGRAM, IN A SANDBOX (cutbox-rows.mjs): the forced cells as the released guide's own fill.sh prints them over the translation 3d8f4f26562a5d94… (all of the seat's roots in one cut). By AI agents, Wed Nov 11 2026. No macro, syntax, notation, axiom, sorry.
-/
import Derived.Test.YtkpckfmnjebjaaaChecked
import GoSem.Claim
import GoSem.ClaimJoined
import GoSem.ClaimMapViews
import Derived.JoinedTies
import Derived.KernelRfl
namespace Go.Proofs.Ytkpckfmnjebjaaa
/- THE CELL 'sum', in the pinned program and in every row, IS THE sha256 OF THE DUMP (.gsa) THAT YtkpckfmnjebjaaaProg.lean LOADS. Nothing in Lean hashes anything: it is a label: what it is worth is what the hold of that sum in a sandbox is worth. -/
noncomputable def Try.pinned : Pinned := { name := "ytkpckfmnjebjaaa", sum := "3d8f4f26562a5d94f05f70ac5411beab54c4583d8e7a9cec0732a313da614ad8", checked := Try.checked }
namespace Rows
def none {H : Type} : Left H := { results := [], args := [] }

/-- 'bulwarklaw5.WalkTables': WHATEVER THE INPUT: true; the input reads as it did. -/
def walkTablesSpec : ChangeSpec := { name := "walkTables", fn := fun _ => fun
  | [d] => { results := [.lit (.bool true)], args := [d] }
  | _ => none }
def walkTablesRow : OpenClaim := { program := "ytkpckfmnjebjaaa", sum := "3d8f4f26562a5d94f05f70ac5411beab54c4583d8e7a9cec0732a313da614ad8", func := "bulwark/bulwarklaw5.WalkTables", spec := "walkTables", apart := false }
def WalkTablesSaid : Prop := walkTablesRow.holds Try.pinned (OpenSpec.ofChange walkTablesSpec)

/-- ITS FALSE NEIGHBOUR: 'it returns false'. Refute it at one input. -/
def walkTablesWrong : ChangeSpec := { name := "walkTables", fn := fun _ => fun
  | [d] => { results := [.lit (.bool false)], args := [d] }
  | _ => none }
def WalkTablesWrongFalsely : Prop := walkTablesRow.holds Try.pinned (OpenSpec.ofChange walkTablesWrong)

/-- 'bulwarklaw5.WalkWalks': WHATEVER THE INPUT: true; the input reads as it did. -/
def walkWalksSpec : ChangeSpec := { name := "walkWalks", fn := fun _ => fun
  | [d] => { results := [.lit (.bool true)], args := [d] }
  | _ => none }
def walkWalksRow : OpenClaim := { program := "ytkpckfmnjebjaaa", sum := "3d8f4f26562a5d94f05f70ac5411beab54c4583d8e7a9cec0732a313da614ad8", func := "bulwark/bulwarklaw5.WalkWalks", spec := "walkWalks", apart := false }
def WalkWalksSaid : Prop := walkWalksRow.holds Try.pinned (OpenSpec.ofChange walkWalksSpec)

/-- ITS FALSE NEIGHBOUR: 'it returns false'. Refute it at one input. -/
def walkWalksWrong : ChangeSpec := { name := "walkWalks", fn := fun _ => fun
  | [d] => { results := [.lit (.bool false)], args := [d] }
  | _ => none }
def WalkWalksWrongFalsely : Prop := walkWalksRow.holds Try.pinned (OpenSpec.ofChange walkWalksWrong)

/-- 'bulwarklaw5.WalkFour': WHATEVER THE INPUT: true; the input reads as it did. -/
def walkFourSpec : ChangeSpec := { name := "walkFour", fn := fun _ => fun
  | [d] => { results := [.lit (.bool true)], args := [d] }
  | _ => none }
def walkFourRow : OpenClaim := { program := "ytkpckfmnjebjaaa", sum := "3d8f4f26562a5d94f05f70ac5411beab54c4583d8e7a9cec0732a313da614ad8", func := "bulwark/bulwarklaw5.WalkFour", spec := "walkFour", apart := false }
def WalkFourSaid : Prop := walkFourRow.holds Try.pinned (OpenSpec.ofChange walkFourSpec)

/-- ITS FALSE NEIGHBOUR: 'it returns false'. Refute it at one input. -/
def walkFourWrong : ChangeSpec := { name := "walkFour", fn := fun _ => fun
  | [d] => { results := [.lit (.bool false)], args := [d] }
  | _ => none }
def WalkFourWrongFalsely : Prop := walkFourRow.holds Try.pinned (OpenSpec.ofChange walkFourWrong)

/- THE SECOND FORM. 'bulk': how many values and letters a reading holds, each counted each time it is reached (what is shared counts as often as it is met; a slice's spare places count too). A statement '..UptoSaid' is the law's where the arguments, and the package variables that the reading takes, are together of bulk at most 1048576: NARROWER than '..Said'. Prove '..Said' where nothing that the law and all that it calls make is longer than what came in: it says more and counts as full. Else prove '..UptoSaid'. A law counts once. -/
mutual
def uptoBulk {H : Type} : DataW H → Nat
  | .lit (.string bytes) => bytes.length + 1
  | .lit _ => 1
  | .nil => 1
  | .ptr d => uptoBulk d + 1
  | .slice elems spare => uptoBulkAll elems + uptoBulkAll spare + 1
  | .agg parts => uptoBulkAll parts + 1
  | .iface _ d => uptoBulk d + 1
  | .map entries => uptoBulkEntries entries + 1
  | .held _ => 1
def uptoBulkAll {H : Type} : List (DataW H) → Nat
  | [] => 0
  | d :: r => uptoBulk d + uptoBulkAll r
def uptoBulkEntries {H : Type} : List (Lit × DataW H) → Nat
  | [] => 0
  | x :: r => uptoBulkEntry x + uptoBulkEntries r
def uptoBulkEntry {H : Type} : Lit × DataW H → Nat
  | (.string bytes, d) => bytes.length + uptoBulk d + 1
  | (_, d) => uptoBulk d + 1
 end
def uptoSmall : (H : Type) → List (DataW H) → Bool := fun _ ds => decide (uptoBulkAll ds ≤ 1048576)
def OpenSpec.upto (s : _root_.Go.ChangeSpec) : _root_.Go.OpenSpec := { _root_.Go.OpenSpec.ofChange s with cond := some uptoSmall }

/-- 'bulwarklaw5.WalkTables', WHERE WHAT IT READS IS OF BULK AT MOST 1048576: true; the input reads as it did. -/
def walkTablesUptoRow : OpenClaim := { program := "ytkpckfmnjebjaaa", sum := "3d8f4f26562a5d94f05f70ac5411beab54c4583d8e7a9cec0732a313da614ad8", func := "bulwark/bulwarklaw5.WalkTables", spec := "walkTables", apart := false, narrowed := true }
def WalkTablesUptoSaid : Prop := walkTablesUptoRow.holds Try.pinned (OpenSpec.upto walkTablesSpec)

/-- 'bulwarklaw5.WalkWalks', WHERE WHAT IT READS IS OF BULK AT MOST 1048576: true; the input reads as it did. -/
def walkWalksUptoRow : OpenClaim := { program := "ytkpckfmnjebjaaa", sum := "3d8f4f26562a5d94f05f70ac5411beab54c4583d8e7a9cec0732a313da614ad8", func := "bulwark/bulwarklaw5.WalkWalks", spec := "walkWalks", apart := false, narrowed := true }
def WalkWalksUptoSaid : Prop := walkWalksUptoRow.holds Try.pinned (OpenSpec.upto walkWalksSpec)

/-- 'bulwarklaw5.WalkFour', WHERE WHAT IT READS IS OF BULK AT MOST 1048576: true; the input reads as it did. -/
def walkFourUptoRow : OpenClaim := { program := "ytkpckfmnjebjaaa", sum := "3d8f4f26562a5d94f05f70ac5411beab54c4583d8e7a9cec0732a313da614ad8", func := "bulwark/bulwarklaw5.WalkFour", spec := "walkFour", apart := false, narrowed := true }
def WalkFourUptoSaid : Prop := walkFourUptoRow.holds Try.pinned (OpenSpec.upto walkFourSpec)

end Rows
end Go.Proofs.Ytkpckfmnjebjaaa
