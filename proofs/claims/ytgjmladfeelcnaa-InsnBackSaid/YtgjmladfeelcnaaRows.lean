/-
  No cell of these rows narrows 'for every input' (looked for: loops, veiled, ifaces, maps, wideKeys, modest, calm, conditions, laid).
  DERIVED. THE GIVEN ROWS OF THIS SEAT. 18 by the template 'for every input the law returns true; each argument reads behind the call as it read before'; 0 by the template 'total and deterministic' (their statements: YtgjmladfeelcnaaTotals.lean).
  GIVEN WITH THE SEED: the statements are not yours to turn. If you find one false, say at which input.
  Laid BY PROGRAM, IN A SANDBOX (cutbox-rows.mjs): the forced cells as the released guide's own fill.sh prints them over the translation 562c37e44aead568… (all of the seat's roots in one cut). By AI agents, Wed Nov 11 2026. No macro, syntax, notation, axiom, sorry.
-/
import Derived.Test.YtgjmladfeelcnaaChecked
import GoSem.Claim
import GoSem.ClaimJoined
import GoSem.ClaimMapViews
import Derived.JoinedTies
import Derived.KernelRfl
namespace Go.Proofs.Ytgjmladfeelcnaa
/- THE CELL 'sum', in the pinned program and in every row, IS THE sha256 OF THE DUMP (.gsa) THAT YtgjmladfeelcnaaProg.lean LOADS. Nothing in Lean hashes anything: it is a label: what it is worth is what the hold of that sum in a sandbox is worth. -/
noncomputable def Try.pinned : Pinned := { name := "ytgjmladfeelcnaa", sum := "562c37e44aead5685c31d82f27c5d7db8f0b990ed3d41f84961c265e67cd5fd9", checked := Try.checked }
namespace Rows
def none {H : Type} : Left H := { results := [], args := [] }

/-- 'bulwarklaw11.InsnWords': WHATEVER THE INPUT: true; the input reads as it did. -/
def insnWordsSpec : ChangeSpec := { name := "insnWords", fn := fun _ => fun
  | [d] => { results := [.lit (.bool true)], args := [d] }
  | _ => none }
def insnWordsRow : OpenClaim := { program := "ytgjmladfeelcnaa", sum := "562c37e44aead5685c31d82f27c5d7db8f0b990ed3d41f84961c265e67cd5fd9", func := "bulwark/bulwarklaw11.InsnWords", spec := "insnWords", apart := false }
def InsnWordsSaid : Prop := insnWordsRow.holds Try.pinned (OpenSpec.ofChange insnWordsSpec)

/-- ITS FALSE NEIGHBOUR: 'it returns false'. Refute it at one input. -/
def insnWordsWrong : ChangeSpec := { name := "insnWords", fn := fun _ => fun
  | [d] => { results := [.lit (.bool false)], args := [d] }
  | _ => none }
def InsnWordsWrongFalsely : Prop := insnWordsRow.holds Try.pinned (OpenSpec.ofChange insnWordsWrong)

/-- 'bulwarklaw11.InsnBack': WHATEVER THE INPUT: true; the input reads as it did. -/
def insnBackSpec : ChangeSpec := { name := "insnBack", fn := fun _ => fun
  | [d] => { results := [.lit (.bool true)], args := [d] }
  | _ => none }
def insnBackRow : OpenClaim := { program := "ytgjmladfeelcnaa", sum := "562c37e44aead5685c31d82f27c5d7db8f0b990ed3d41f84961c265e67cd5fd9", func := "bulwark/bulwarklaw11.InsnBack", spec := "insnBack", apart := false }
def InsnBackSaid : Prop := insnBackRow.holds Try.pinned (OpenSpec.ofChange insnBackSpec)

/-- ITS FALSE NEIGHBOUR: 'it returns false'. Refute it at one input. -/
def insnBackWrong : ChangeSpec := { name := "insnBack", fn := fun _ => fun
  | [d] => { results := [.lit (.bool false)], args := [d] }
  | _ => none }
def InsnBackWrongFalsely : Prop := insnBackRow.holds Try.pinned (OpenSpec.ofChange insnBackWrong)

/-- 'bulwarklaw11.InsnMoves': WHATEVER THE INPUT: true; the input reads as it did. -/
def insnMovesSpec : ChangeSpec := { name := "insnMoves", fn := fun _ => fun
  | [d] => { results := [.lit (.bool true)], args := [d] }
  | _ => none }
def insnMovesRow : OpenClaim := { program := "ytgjmladfeelcnaa", sum := "562c37e44aead5685c31d82f27c5d7db8f0b990ed3d41f84961c265e67cd5fd9", func := "bulwark/bulwarklaw11.InsnMoves", spec := "insnMoves", apart := false }
def InsnMovesSaid : Prop := insnMovesRow.holds Try.pinned (OpenSpec.ofChange insnMovesSpec)

/-- ITS FALSE NEIGHBOUR: 'it returns false'. Refute it at one input. -/
def insnMovesWrong : ChangeSpec := { name := "insnMoves", fn := fun _ => fun
  | [d] => { results := [.lit (.bool false)], args := [d] }
  | _ => none }
def InsnMovesWrongFalsely : Prop := insnMovesRow.holds Try.pinned (OpenSpec.ofChange insnMovesWrong)

/-- 'bulwarklaw11.InsnAdds': WHATEVER THE INPUT: true; the input reads as it did. -/
def insnAddsSpec : ChangeSpec := { name := "insnAdds", fn := fun _ => fun
  | [d] => { results := [.lit (.bool true)], args := [d] }
  | _ => none }
def insnAddsRow : OpenClaim := { program := "ytgjmladfeelcnaa", sum := "562c37e44aead5685c31d82f27c5d7db8f0b990ed3d41f84961c265e67cd5fd9", func := "bulwark/bulwarklaw11.InsnAdds", spec := "insnAdds", apart := false }
def InsnAddsSaid : Prop := insnAddsRow.holds Try.pinned (OpenSpec.ofChange insnAddsSpec)

/-- ITS FALSE NEIGHBOUR: 'it returns false'. Refute it at one input. -/
def insnAddsWrong : ChangeSpec := { name := "insnAdds", fn := fun _ => fun
  | [d] => { results := [.lit (.bool false)], args := [d] }
  | _ => none }
def InsnAddsWrongFalsely : Prop := insnAddsRow.holds Try.pinned (OpenSpec.ofChange insnAddsWrong)

/-- 'bulwarklaw11.InsnSubs': WHATEVER THE INPUT: true; the input reads as it did. -/
def insnSubsSpec : ChangeSpec := { name := "insnSubs", fn := fun _ => fun
  | [d] => { results := [.lit (.bool true)], args := [d] }
  | _ => none }
def insnSubsRow : OpenClaim := { program := "ytgjmladfeelcnaa", sum := "562c37e44aead5685c31d82f27c5d7db8f0b990ed3d41f84961c265e67cd5fd9", func := "bulwark/bulwarklaw11.InsnSubs", spec := "insnSubs", apart := false }
def InsnSubsSaid : Prop := insnSubsRow.holds Try.pinned (OpenSpec.ofChange insnSubsSpec)

/-- ITS FALSE NEIGHBOUR: 'it returns false'. Refute it at one input. -/
def insnSubsWrong : ChangeSpec := { name := "insnSubs", fn := fun _ => fun
  | [d] => { results := [.lit (.bool false)], args := [d] }
  | _ => none }
def InsnSubsWrongFalsely : Prop := insnSubsRow.holds Try.pinned (OpenSpec.ofChange insnSubsWrong)

/-- 'bulwarklaw11.InsnAnds': WHATEVER THE INPUT: true; the input reads as it did. -/
def insnAndsSpec : ChangeSpec := { name := "insnAnds", fn := fun _ => fun
  | [d] => { results := [.lit (.bool true)], args := [d] }
  | _ => none }
def insnAndsRow : OpenClaim := { program := "ytgjmladfeelcnaa", sum := "562c37e44aead5685c31d82f27c5d7db8f0b990ed3d41f84961c265e67cd5fd9", func := "bulwark/bulwarklaw11.InsnAnds", spec := "insnAnds", apart := false }
def InsnAndsSaid : Prop := insnAndsRow.holds Try.pinned (OpenSpec.ofChange insnAndsSpec)

/-- ITS FALSE NEIGHBOUR: 'it returns false'. Refute it at one input. -/
def insnAndsWrong : ChangeSpec := { name := "insnAnds", fn := fun _ => fun
  | [d] => { results := [.lit (.bool false)], args := [d] }
  | _ => none }
def InsnAndsWrongFalsely : Prop := insnAndsRow.holds Try.pinned (OpenSpec.ofChange insnAndsWrong)

/-- 'bulwarklaw11.InsnOrs': WHATEVER THE INPUT: true; the input reads as it did. -/
def insnOrsSpec : ChangeSpec := { name := "insnOrs", fn := fun _ => fun
  | [d] => { results := [.lit (.bool true)], args := [d] }
  | _ => none }
def insnOrsRow : OpenClaim := { program := "ytgjmladfeelcnaa", sum := "562c37e44aead5685c31d82f27c5d7db8f0b990ed3d41f84961c265e67cd5fd9", func := "bulwark/bulwarklaw11.InsnOrs", spec := "insnOrs", apart := false }
def InsnOrsSaid : Prop := insnOrsRow.holds Try.pinned (OpenSpec.ofChange insnOrsSpec)

/-- ITS FALSE NEIGHBOUR: 'it returns false'. Refute it at one input. -/
def insnOrsWrong : ChangeSpec := { name := "insnOrs", fn := fun _ => fun
  | [d] => { results := [.lit (.bool false)], args := [d] }
  | _ => none }
def InsnOrsWrongFalsely : Prop := insnOrsRow.holds Try.pinned (OpenSpec.ofChange insnOrsWrong)

/-- 'bulwarklaw11.InsnXors': WHATEVER THE INPUT: true; the input reads as it did. -/
def insnXorsSpec : ChangeSpec := { name := "insnXors", fn := fun _ => fun
  | [d] => { results := [.lit (.bool true)], args := [d] }
  | _ => none }
def insnXorsRow : OpenClaim := { program := "ytgjmladfeelcnaa", sum := "562c37e44aead5685c31d82f27c5d7db8f0b990ed3d41f84961c265e67cd5fd9", func := "bulwark/bulwarklaw11.InsnXors", spec := "insnXors", apart := false }
def InsnXorsSaid : Prop := insnXorsRow.holds Try.pinned (OpenSpec.ofChange insnXorsSpec)

/-- ITS FALSE NEIGHBOUR: 'it returns false'. Refute it at one input. -/
def insnXorsWrong : ChangeSpec := { name := "insnXors", fn := fun _ => fun
  | [d] => { results := [.lit (.bool false)], args := [d] }
  | _ => none }
def InsnXorsWrongFalsely : Prop := insnXorsRow.holds Try.pinned (OpenSpec.ofChange insnXorsWrong)

/-- 'bulwarklaw11.InsnLoads': WHATEVER THE INPUT: true; the input reads as it did. -/
def insnLoadsSpec : ChangeSpec := { name := "insnLoads", fn := fun _ => fun
  | [d] => { results := [.lit (.bool true)], args := [d] }
  | _ => none }
def insnLoadsRow : OpenClaim := { program := "ytgjmladfeelcnaa", sum := "562c37e44aead5685c31d82f27c5d7db8f0b990ed3d41f84961c265e67cd5fd9", func := "bulwark/bulwarklaw11.InsnLoads", spec := "insnLoads", apart := false }
def InsnLoadsSaid : Prop := insnLoadsRow.holds Try.pinned (OpenSpec.ofChange insnLoadsSpec)

/-- ITS FALSE NEIGHBOUR: 'it returns false'. Refute it at one input. -/
def insnLoadsWrong : ChangeSpec := { name := "insnLoads", fn := fun _ => fun
  | [d] => { results := [.lit (.bool false)], args := [d] }
  | _ => none }
def InsnLoadsWrongFalsely : Prop := insnLoadsRow.holds Try.pinned (OpenSpec.ofChange insnLoadsWrong)

/-- 'bulwarklaw11.InsnStores': WHATEVER THE INPUT: true; the input reads as it did. -/
def insnStoresSpec : ChangeSpec := { name := "insnStores", fn := fun _ => fun
  | [d] => { results := [.lit (.bool true)], args := [d] }
  | _ => none }
def insnStoresRow : OpenClaim := { program := "ytgjmladfeelcnaa", sum := "562c37e44aead5685c31d82f27c5d7db8f0b990ed3d41f84961c265e67cd5fd9", func := "bulwark/bulwarklaw11.InsnStores", spec := "insnStores", apart := false }
def InsnStoresSaid : Prop := insnStoresRow.holds Try.pinned (OpenSpec.ofChange insnStoresSpec)

/-- ITS FALSE NEIGHBOUR: 'it returns false'. Refute it at one input. -/
def insnStoresWrong : ChangeSpec := { name := "insnStores", fn := fun _ => fun
  | [d] => { results := [.lit (.bool false)], args := [d] }
  | _ => none }
def InsnStoresWrongFalsely : Prop := insnStoresRow.holds Try.pinned (OpenSpec.ofChange insnStoresWrong)

/-- 'bulwarklaw11.InsnJumps': WHATEVER THE INPUT: true; the input reads as it did. -/
def insnJumpsSpec : ChangeSpec := { name := "insnJumps", fn := fun _ => fun
  | [d] => { results := [.lit (.bool true)], args := [d] }
  | _ => none }
def insnJumpsRow : OpenClaim := { program := "ytgjmladfeelcnaa", sum := "562c37e44aead5685c31d82f27c5d7db8f0b990ed3d41f84961c265e67cd5fd9", func := "bulwark/bulwarklaw11.InsnJumps", spec := "insnJumps", apart := false }
def InsnJumpsSaid : Prop := insnJumpsRow.holds Try.pinned (OpenSpec.ofChange insnJumpsSpec)

/-- ITS FALSE NEIGHBOUR: 'it returns false'. Refute it at one input. -/
def insnJumpsWrong : ChangeSpec := { name := "insnJumps", fn := fun _ => fun
  | [d] => { results := [.lit (.bool false)], args := [d] }
  | _ => none }
def InsnJumpsWrongFalsely : Prop := insnJumpsRow.holds Try.pinned (OpenSpec.ofChange insnJumpsWrong)

/-- 'bulwarklaw11.InsnZeros': WHATEVER THE INPUT: true; the input reads as it did. -/
def insnZerosSpec : ChangeSpec := { name := "insnZeros", fn := fun _ => fun
  | [d] => { results := [.lit (.bool true)], args := [d] }
  | _ => none }
def insnZerosRow : OpenClaim := { program := "ytgjmladfeelcnaa", sum := "562c37e44aead5685c31d82f27c5d7db8f0b990ed3d41f84961c265e67cd5fd9", func := "bulwark/bulwarklaw11.InsnZeros", spec := "insnZeros", apart := false }
def InsnZerosSaid : Prop := insnZerosRow.holds Try.pinned (OpenSpec.ofChange insnZerosSpec)

/-- ITS FALSE NEIGHBOUR: 'it returns false'. Refute it at one input. -/
def insnZerosWrong : ChangeSpec := { name := "insnZeros", fn := fun _ => fun
  | [d] => { results := [.lit (.bool false)], args := [d] }
  | _ => none }
def InsnZerosWrongFalsely : Prop := insnZerosRow.holds Try.pinned (OpenSpec.ofChange insnZerosWrong)

/-- 'bulwarklaw11.InsnReads': WHATEVER THE INPUT: true; the input reads as it did. -/
def insnReadsSpec : ChangeSpec := { name := "insnReads", fn := fun _ => fun
  | [d] => { results := [.lit (.bool true)], args := [d] }
  | _ => none }
def insnReadsRow : OpenClaim := { program := "ytgjmladfeelcnaa", sum := "562c37e44aead5685c31d82f27c5d7db8f0b990ed3d41f84961c265e67cd5fd9", func := "bulwark/bulwarklaw11.InsnReads", spec := "insnReads", apart := false }
def InsnReadsSaid : Prop := insnReadsRow.holds Try.pinned (OpenSpec.ofChange insnReadsSpec)

/-- ITS FALSE NEIGHBOUR: 'it returns false'. Refute it at one input. -/
def insnReadsWrong : ChangeSpec := { name := "insnReads", fn := fun _ => fun
  | [d] => { results := [.lit (.bool false)], args := [d] }
  | _ => none }
def InsnReadsWrongFalsely : Prop := insnReadsRow.holds Try.pinned (OpenSpec.ofChange insnReadsWrong)

/-- 'bulwarklaw11.InsnWrites': WHATEVER THE INPUT: true; the input reads as it did. -/
def insnWritesSpec : ChangeSpec := { name := "insnWrites", fn := fun _ => fun
  | [d] => { results := [.lit (.bool true)], args := [d] }
  | _ => none }
def insnWritesRow : OpenClaim := { program := "ytgjmladfeelcnaa", sum := "562c37e44aead5685c31d82f27c5d7db8f0b990ed3d41f84961c265e67cd5fd9", func := "bulwark/bulwarklaw11.InsnWrites", spec := "insnWrites", apart := false }
def InsnWritesSaid : Prop := insnWritesRow.holds Try.pinned (OpenSpec.ofChange insnWritesSpec)

/-- ITS FALSE NEIGHBOUR: 'it returns false'. Refute it at one input. -/
def insnWritesWrong : ChangeSpec := { name := "insnWrites", fn := fun _ => fun
  | [d] => { results := [.lit (.bool false)], args := [d] }
  | _ => none }
def InsnWritesWrongFalsely : Prop := insnWritesRow.holds Try.pinned (OpenSpec.ofChange insnWritesWrong)

/-- 'bulwarklaw11.InsnInvals': WHATEVER THE INPUT: true; the input reads as it did. -/
def insnInvalsSpec : ChangeSpec := { name := "insnInvals", fn := fun _ => fun
  | [d] => { results := [.lit (.bool true)], args := [d] }
  | _ => none }
def insnInvalsRow : OpenClaim := { program := "ytgjmladfeelcnaa", sum := "562c37e44aead5685c31d82f27c5d7db8f0b990ed3d41f84961c265e67cd5fd9", func := "bulwark/bulwarklaw11.InsnInvals", spec := "insnInvals", apart := false }
def InsnInvalsSaid : Prop := insnInvalsRow.holds Try.pinned (OpenSpec.ofChange insnInvalsSpec)

/-- ITS FALSE NEIGHBOUR: 'it returns false'. Refute it at one input. -/
def insnInvalsWrong : ChangeSpec := { name := "insnInvals", fn := fun _ => fun
  | [d] => { results := [.lit (.bool false)], args := [d] }
  | _ => none }
def InsnInvalsWrongFalsely : Prop := insnInvalsRow.holds Try.pinned (OpenSpec.ofChange insnInvalsWrong)

/-- 'bulwarklaw11.InsnWaits': WHATEVER THE INPUT: true; the input reads as it did. -/
def insnWaitsSpec : ChangeSpec := { name := "insnWaits", fn := fun _ => fun
  | [d] => { results := [.lit (.bool true)], args := [d] }
  | _ => none }
def insnWaitsRow : OpenClaim := { program := "ytgjmladfeelcnaa", sum := "562c37e44aead5685c31d82f27c5d7db8f0b990ed3d41f84961c265e67cd5fd9", func := "bulwark/bulwarklaw11.InsnWaits", spec := "insnWaits", apart := false }
def InsnWaitsSaid : Prop := insnWaitsRow.holds Try.pinned (OpenSpec.ofChange insnWaitsSpec)

/-- ITS FALSE NEIGHBOUR: 'it returns false'. Refute it at one input. -/
def insnWaitsWrong : ChangeSpec := { name := "insnWaits", fn := fun _ => fun
  | [d] => { results := [.lit (.bool false)], args := [d] }
  | _ => none }
def InsnWaitsWrongFalsely : Prop := insnWaitsRow.holds Try.pinned (OpenSpec.ofChange insnWaitsWrong)

/-- 'bulwarklaw11.InsnCalls': WHATEVER THE INPUT: true; the input reads as it did. -/
def insnCallsSpec : ChangeSpec := { name := "insnCalls", fn := fun _ => fun
  | [d] => { results := [.lit (.bool true)], args := [d] }
  | _ => none }
def insnCallsRow : OpenClaim := { program := "ytgjmladfeelcnaa", sum := "562c37e44aead5685c31d82f27c5d7db8f0b990ed3d41f84961c265e67cd5fd9", func := "bulwark/bulwarklaw11.InsnCalls", spec := "insnCalls", apart := false }
def InsnCallsSaid : Prop := insnCallsRow.holds Try.pinned (OpenSpec.ofChange insnCallsSpec)

/-- ITS FALSE NEIGHBOUR: 'it returns false'. Refute it at one input. -/
def insnCallsWrong : ChangeSpec := { name := "insnCalls", fn := fun _ => fun
  | [d] => { results := [.lit (.bool false)], args := [d] }
  | _ => none }
def InsnCallsWrongFalsely : Prop := insnCallsRow.holds Try.pinned (OpenSpec.ofChange insnCallsWrong)

/-- 'bulwarklaw11.InsnBacks': WHATEVER THE INPUT: true; the input reads as it did. -/
def insnBacksSpec : ChangeSpec := { name := "insnBacks", fn := fun _ => fun
  | [d] => { results := [.lit (.bool true)], args := [d] }
  | _ => none }
def insnBacksRow : OpenClaim := { program := "ytgjmladfeelcnaa", sum := "562c37e44aead5685c31d82f27c5d7db8f0b990ed3d41f84961c265e67cd5fd9", func := "bulwark/bulwarklaw11.InsnBacks", spec := "insnBacks", apart := false }
def InsnBacksSaid : Prop := insnBacksRow.holds Try.pinned (OpenSpec.ofChange insnBacksSpec)

/-- ITS FALSE NEIGHBOUR: 'it returns false'. Refute it at one input. -/
def insnBacksWrong : ChangeSpec := { name := "insnBacks", fn := fun _ => fun
  | [d] => { results := [.lit (.bool false)], args := [d] }
  | _ => none }
def InsnBacksWrongFalsely : Prop := insnBacksRow.holds Try.pinned (OpenSpec.ofChange insnBacksWrong)

/- THE SECOND FORM. 'bulk': how many values and letters a reading holds, each counted each time it is reached (what is shared counts as often as it is met; a slice's spare places count too). A statement '..UptoSaid' is the law's where the arguments, and the package variables that the reading takes, are together of bulk at most 1048576: NARROWER than '..Said'. Prove '..Said' where nothing that the law and all that it calls make is longer than what came in: it says more and counts as full. Else prove '..UptoSaid'. A law counts once. -/
mutual
def uptoBulk {H : Type} : DataW H → Nat
  | .lit (.string bytes) => bytes.length + 1
  | .lit _ => 1
  | .nil => 1
  | .ptr d => uptoBulk d + 1
  | .slice elems spare => uptoBulkAll elems + uptoBulkAll spare + 1
  | .agg parts => uptoBulkAll parts + 1
  | .iface _ d => uptoBulk d + 1
  | .map entries => uptoBulkEntries entries + 1
  | .held _ => 1
def uptoBulkAll {H : Type} : List (DataW H) → Nat
  | [] => 0
  | d :: r => uptoBulk d + uptoBulkAll r
def uptoBulkEntries {H : Type} : List (Lit × DataW H) → Nat
  | [] => 0
  | x :: r => uptoBulkEntry x + uptoBulkEntries r
def uptoBulkEntry {H : Type} : Lit × DataW H → Nat
  | (.string bytes, d) => bytes.length + uptoBulk d + 1
  | (_, d) => uptoBulk d + 1
 end
def uptoSmall : (H : Type) → List (DataW H) → Bool := fun _ ds => decide (uptoBulkAll ds ≤ 1048576)
def OpenSpec.upto (s : _root_.Go.ChangeSpec) : _root_.Go.OpenSpec := { _root_.Go.OpenSpec.ofChange s with cond := some uptoSmall }

/-- 'bulwarklaw11.InsnWords', WHERE WHAT IT READS IS OF BULK AT MOST 1048576: true; the input reads as it did. -/
def insnWordsUptoRow : OpenClaim := { program := "ytgjmladfeelcnaa", sum := "562c37e44aead5685c31d82f27c5d7db8f0b990ed3d41f84961c265e67cd5fd9", func := "bulwark/bulwarklaw11.InsnWords", spec := "insnWords", apart := false, narrowed := true }
def InsnWordsUptoSaid : Prop := insnWordsUptoRow.holds Try.pinned (OpenSpec.upto insnWordsSpec)

/-- 'bulwarklaw11.InsnBack', WHERE WHAT IT READS IS OF BULK AT MOST 1048576: true; the input reads as it did. -/
def insnBackUptoRow : OpenClaim := { program := "ytgjmladfeelcnaa", sum := "562c37e44aead5685c31d82f27c5d7db8f0b990ed3d41f84961c265e67cd5fd9", func := "bulwark/bulwarklaw11.InsnBack", spec := "insnBack", apart := false, narrowed := true }
def InsnBackUptoSaid : Prop := insnBackUptoRow.holds Try.pinned (OpenSpec.upto insnBackSpec)

/-- 'bulwarklaw11.InsnMoves', WHERE WHAT IT READS IS OF BULK AT MOST 1048576: true; the input reads as it did. -/
def insnMovesUptoRow : OpenClaim := { program := "ytgjmladfeelcnaa", sum := "562c37e44aead5685c31d82f27c5d7db8f0b990ed3d41f84961c265e67cd5fd9", func := "bulwark/bulwarklaw11.InsnMoves", spec := "insnMoves", apart := false, narrowed := true }
def InsnMovesUptoSaid : Prop := insnMovesUptoRow.holds Try.pinned (OpenSpec.upto insnMovesSpec)

/-- 'bulwarklaw11.InsnAdds', WHERE WHAT IT READS IS OF BULK AT MOST 1048576: true; the input reads as it did. -/
def insnAddsUptoRow : OpenClaim := { program := "ytgjmladfeelcnaa", sum := "562c37e44aead5685c31d82f27c5d7db8f0b990ed3d41f84961c265e67cd5fd9", func := "bulwark/bulwarklaw11.InsnAdds", spec := "insnAdds", apart := false, narrowed := true }
def InsnAddsUptoSaid : Prop := insnAddsUptoRow.holds Try.pinned (OpenSpec.upto insnAddsSpec)

/-- 'bulwarklaw11.InsnSubs', WHERE WHAT IT READS IS OF BULK AT MOST 1048576: true; the input reads as it did. -/
def insnSubsUptoRow : OpenClaim := { program := "ytgjmladfeelcnaa", sum := "562c37e44aead5685c31d82f27c5d7db8f0b990ed3d41f84961c265e67cd5fd9", func := "bulwark/bulwarklaw11.InsnSubs", spec := "insnSubs", apart := false, narrowed := true }
def InsnSubsUptoSaid : Prop := insnSubsUptoRow.holds Try.pinned (OpenSpec.upto insnSubsSpec)

/-- 'bulwarklaw11.InsnAnds', WHERE WHAT IT READS IS OF BULK AT MOST 1048576: true; the input reads as it did. -/
def insnAndsUptoRow : OpenClaim := { program := "ytgjmladfeelcnaa", sum := "562c37e44aead5685c31d82f27c5d7db8f0b990ed3d41f84961c265e67cd5fd9", func := "bulwark/bulwarklaw11.InsnAnds", spec := "insnAnds", apart := false, narrowed := true }
def InsnAndsUptoSaid : Prop := insnAndsUptoRow.holds Try.pinned (OpenSpec.upto insnAndsSpec)

/-- 'bulwarklaw11.InsnOrs', WHERE WHAT IT READS IS OF BULK AT MOST 1048576: true; the input reads as it did. -/
def insnOrsUptoRow : OpenClaim := { program := "ytgjmladfeelcnaa", sum := "562c37e44aead5685c31d82f27c5d7db8f0b990ed3d41f84961c265e67cd5fd9", func := "bulwark/bulwarklaw11.InsnOrs", spec := "insnOrs", apart := false, narrowed := true }
def InsnOrsUptoSaid : Prop := insnOrsUptoRow.holds Try.pinned (OpenSpec.upto insnOrsSpec)

/-- 'bulwarklaw11.InsnXors', WHERE WHAT IT READS IS OF BULK AT MOST 1048576: true; the input reads as it did. -/
def insnXorsUptoRow : OpenClaim := { program := "ytgjmladfeelcnaa", sum := "562c37e44aead5685c31d82f27c5d7db8f0b990ed3d41f84961c265e67cd5fd9", func := "bulwark/bulwarklaw11.InsnXors", spec := "insnXors", apart := false, narrowed := true }
def InsnXorsUptoSaid : Prop := insnXorsUptoRow.holds Try.pinned (OpenSpec.upto insnXorsSpec)

/-- 'bulwarklaw11.InsnLoads', WHERE WHAT IT READS IS OF BULK AT MOST 1048576: true; the input reads as it did. -/
def insnLoadsUptoRow : OpenClaim := { program := "ytgjmladfeelcnaa", sum := "562c37e44aead5685c31d82f27c5d7db8f0b990ed3d41f84961c265e67cd5fd9", func := "bulwark/bulwarklaw11.InsnLoads", spec := "insnLoads", apart := false, narrowed := true }
def InsnLoadsUptoSaid : Prop := insnLoadsUptoRow.holds Try.pinned (OpenSpec.upto insnLoadsSpec)

/-- 'bulwarklaw11.InsnStores', WHERE WHAT IT READS IS OF BULK AT MOST 1048576: true; the input reads as it did. -/
def insnStoresUptoRow : OpenClaim := { program := "ytgjmladfeelcnaa", sum := "562c37e44aead5685c31d82f27c5d7db8f0b990ed3d41f84961c265e67cd5fd9", func := "bulwark/bulwarklaw11.InsnStores", spec := "insnStores", apart := false, narrowed := true }
def InsnStoresUptoSaid : Prop := insnStoresUptoRow.holds Try.pinned (OpenSpec.upto insnStoresSpec)

/-- 'bulwarklaw11.InsnJumps', WHERE WHAT IT READS IS OF BULK AT MOST 1048576: true; the input reads as it did. -/
def insnJumpsUptoRow : OpenClaim := { program := "ytgjmladfeelcnaa", sum := "562c37e44aead5685c31d82f27c5d7db8f0b990ed3d41f84961c265e67cd5fd9", func := "bulwark/bulwarklaw11.InsnJumps", spec := "insnJumps", apart := false, narrowed := true }
def InsnJumpsUptoSaid : Prop := insnJumpsUptoRow.holds Try.pinned (OpenSpec.upto insnJumpsSpec)

/-- 'bulwarklaw11.InsnZeros', WHERE WHAT IT READS IS OF BULK AT MOST 1048576: true; the input reads as it did. -/
def insnZerosUptoRow : OpenClaim := { program := "ytgjmladfeelcnaa", sum := "562c37e44aead5685c31d82f27c5d7db8f0b990ed3d41f84961c265e67cd5fd9", func := "bulwark/bulwarklaw11.InsnZeros", spec := "insnZeros", apart := false, narrowed := true }
def InsnZerosUptoSaid : Prop := insnZerosUptoRow.holds Try.pinned (OpenSpec.upto insnZerosSpec)

/-- 'bulwarklaw11.InsnReads', WHERE WHAT IT READS IS OF BULK AT MOST 1048576: true; the input reads as it did. -/
def insnReadsUptoRow : OpenClaim := { program := "ytgjmladfeelcnaa", sum := "562c37e44aead5685c31d82f27c5d7db8f0b990ed3d41f84961c265e67cd5fd9", func := "bulwark/bulwarklaw11.InsnReads", spec := "insnReads", apart := false, narrowed := true }
def InsnReadsUptoSaid : Prop := insnReadsUptoRow.holds Try.pinned (OpenSpec.upto insnReadsSpec)

/-- 'bulwarklaw11.InsnWrites', WHERE WHAT IT READS IS OF BULK AT MOST 1048576: true; the input reads as it did. -/
def insnWritesUptoRow : OpenClaim := { program := "ytgjmladfeelcnaa", sum := "562c37e44aead5685c31d82f27c5d7db8f0b990ed3d41f84961c265e67cd5fd9", func := "bulwark/bulwarklaw11.InsnWrites", spec := "insnWrites", apart := false, narrowed := true }
def InsnWritesUptoSaid : Prop := insnWritesUptoRow.holds Try.pinned (OpenSpec.upto insnWritesSpec)

/-- 'bulwarklaw11.InsnInvals', WHERE WHAT IT READS IS OF BULK AT MOST 1048576: true; the input reads as it did. -/
def insnInvalsUptoRow : OpenClaim := { program := "ytgjmladfeelcnaa", sum := "562c37e44aead5685c31d82f27c5d7db8f0b990ed3d41f84961c265e67cd5fd9", func := "bulwark/bulwarklaw11.InsnInvals", spec := "insnInvals", apart := false, narrowed := true }
def InsnInvalsUptoSaid : Prop := insnInvalsUptoRow.holds Try.pinned (OpenSpec.upto insnInvalsSpec)

/-- 'bulwarklaw11.InsnWaits', WHERE WHAT IT READS IS OF BULK AT MOST 1048576: true; the input reads as it did. -/
def insnWaitsUptoRow : OpenClaim := { program := "ytgjmladfeelcnaa", sum := "562c37e44aead5685c31d82f27c5d7db8f0b990ed3d41f84961c265e67cd5fd9", func := "bulwark/bulwarklaw11.InsnWaits", spec := "insnWaits", apart := false, narrowed := true }
def InsnWaitsUptoSaid : Prop := insnWaitsUptoRow.holds Try.pinned (OpenSpec.upto insnWaitsSpec)

/-- 'bulwarklaw11.InsnCalls', WHERE WHAT IT READS IS OF BULK AT MOST 1048576: true; the input reads as it did. -/
def insnCallsUptoRow : OpenClaim := { program := "ytgjmladfeelcnaa", sum := "562c37e44aead5685c31d82f27c5d7db8f0b990ed3d41f84961c265e67cd5fd9", func := "bulwark/bulwarklaw11.InsnCalls", spec := "insnCalls", apart := false, narrowed := true }
def InsnCallsUptoSaid : Prop := insnCallsUptoRow.holds Try.pinned (OpenSpec.upto insnCallsSpec)

/-- 'bulwarklaw11.InsnBacks', WHERE WHAT IT READS IS OF BULK AT MOST 1048576: true; the input reads as it did. -/
def insnBacksUptoRow : OpenClaim := { program := "ytgjmladfeelcnaa", sum := "562c37e44aead5685c31d82f27c5d7db8f0b990ed3d41f84961c265e67cd5fd9", func := "bulwark/bulwarklaw11.InsnBacks", spec := "insnBacks", apart := false, narrowed := true }
def InsnBacksUptoSaid : Prop := insnBacksUptoRow.holds Try.pinned (OpenSpec.upto insnBacksSpec)

end Rows
end Go.Proofs.Ytgjmladfeelcnaa
