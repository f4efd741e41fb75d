/-
  No cell of these rows narrows 'for every input' (looked for: loops, veiled, ifaces, maps, wideKeys, modest, calm, conditions, laid).
  DERIVED. THE GIVEN ROWS OF THIS SEAT. 6 by the template 'for every input the law returns true; each argument reads behind the call as it read before'; 0 by the template 'total and deterministic' (their statements: YtpelolokdmfbdaaGreatTotals.lean).
  GIVEN WITH THE SEED: the statements are not yours to turn. If you find one false, say at which input.
  Laid BY PROGRAM, IN A SANDBOX (cutbox-rows.mjs): the forced cells as the released guide's own fill.sh prints them over the translation 8f774c257d59e06e… (all of the seat's roots in one cut). By AI agents, Wed Nov 11 2026. No macro, syntax, notation, axiom, sorry.
-/
import Derived.Test.YtpelolokdmfbdaaGreatChecked
import GoSem.Claim
import GoSem.ClaimJoined
import GoSem.ClaimMapViews
import Derived.JoinedTies
import Derived.KernelRfl
namespace Go.Proofs.YtpelolokdmfbdaaGreat
/- THE CELL 'sum', in the pinned program and in every row, IS THE sha256 OF THE DUMP (.gsa) THAT YtpelolokdmfbdaaGreatProg.lean LOADS. Nothing in Lean hashes anything: it is a label: what it is worth is what the hold of that sum in a sandbox is worth. -/
noncomputable def Tryz.pinned : Pinned := { name := "ytpelolokdmfbdaagreat", sum := "8f774c257d59e06ea7849ee341ff8e8dac31b98aa1ea9c58370fa699d5e83844", checked := Tryz.checked }
namespace Rows
def none {H : Type} : Left H := { results := [], args := [] }

/-- 'bulwarklaw7.NestMids': WHATEVER THE INPUT: true; the input reads as it did. -/
def nestMidsSpec : ChangeSpec := { name := "nestMids", fn := fun _ => fun
  | [d] => { results := [.lit (.bool true)], args := [d] }
  | _ => none }
def nestMidsRow : OpenClaim := { program := "ytpelolokdmfbdaagreat", sum := "8f774c257d59e06ea7849ee341ff8e8dac31b98aa1ea9c58370fa699d5e83844", func := "bulwark/bulwarklaw7.NestMids", spec := "nestMids", apart := false }
def NestMidsSaid : Prop := nestMidsRow.holds Tryz.pinned (OpenSpec.ofChange nestMidsSpec)

/-- ITS FALSE NEIGHBOUR: 'it returns false'. Refute it at one input. -/
def nestMidsWrong : ChangeSpec := { name := "nestMids", fn := fun _ => fun
  | [d] => { results := [.lit (.bool false)], args := [d] }
  | _ => none }
def NestMidsWrongFalsely : Prop := nestMidsRow.holds Tryz.pinned (OpenSpec.ofChange nestMidsWrong)

/-- 'bulwarklaw7.NestTrans': WHATEVER THE INPUT: true; the input reads as it did. -/
def nestTransSpec : ChangeSpec := { name := "nestTrans", fn := fun _ => fun
  | [d] => { results := [.lit (.bool true)], args := [d] }
  | _ => none }
def nestTransRow : OpenClaim := { program := "ytpelolokdmfbdaagreat", sum := "8f774c257d59e06ea7849ee341ff8e8dac31b98aa1ea9c58370fa699d5e83844", func := "bulwark/bulwarklaw7.NestTrans", spec := "nestTrans", apart := false }
def NestTransSaid : Prop := nestTransRow.holds Tryz.pinned (OpenSpec.ofChange nestTransSpec)

/-- ITS FALSE NEIGHBOUR: 'it returns false'. Refute it at one input. -/
def nestTransWrong : ChangeSpec := { name := "nestTrans", fn := fun _ => fun
  | [d] => { results := [.lit (.bool false)], args := [d] }
  | _ => none }
def NestTransWrongFalsely : Prop := nestTransRow.holds Tryz.pinned (OpenSpec.ofChange nestTransWrong)

/-- 'bulwarklaw7.NestConfined': WHATEVER THE INPUT: true; the input reads as it did. -/
def nestConfinedSpec : ChangeSpec := { name := "nestConfined", fn := fun _ => fun
  | [d] => { results := [.lit (.bool true)], args := [d] }
  | _ => none }
def nestConfinedRow : OpenClaim := { program := "ytpelolokdmfbdaagreat", sum := "8f774c257d59e06ea7849ee341ff8e8dac31b98aa1ea9c58370fa699d5e83844", func := "bulwark/bulwarklaw7.NestConfined", spec := "nestConfined", apart := false }
def NestConfinedSaid : Prop := nestConfinedRow.holds Tryz.pinned (OpenSpec.ofChange nestConfinedSpec)

/-- ITS FALSE NEIGHBOUR: 'it returns false'. Refute it at one input. -/
def nestConfinedWrong : ChangeSpec := { name := "nestConfined", fn := fun _ => fun
  | [d] => { results := [.lit (.bool false)], args := [d] }
  | _ => none }
def NestConfinedWrongFalsely : Prop := nestConfinedRow.holds Tryz.pinned (OpenSpec.ofChange nestConfinedWrong)

/-- 'bulwarklaw7.NestReads': WHATEVER THE INPUT: true; the input reads as it did. -/
def nestReadsSpec : ChangeSpec := { name := "nestReads", fn := fun _ => fun
  | [d] => { results := [.lit (.bool true)], args := [d] }
  | _ => none }
def nestReadsRow : OpenClaim := { program := "ytpelolokdmfbdaagreat", sum := "8f774c257d59e06ea7849ee341ff8e8dac31b98aa1ea9c58370fa699d5e83844", func := "bulwark/bulwarklaw7.NestReads", spec := "nestReads", apart := false }
def NestReadsSaid : Prop := nestReadsRow.holds Tryz.pinned (OpenSpec.ofChange nestReadsSpec)

/-- ITS FALSE NEIGHBOUR: 'it returns false'. Refute it at one input. -/
def nestReadsWrong : ChangeSpec := { name := "nestReads", fn := fun _ => fun
  | [d] => { results := [.lit (.bool false)], args := [d] }
  | _ => none }
def NestReadsWrongFalsely : Prop := nestReadsRow.holds Tryz.pinned (OpenSpec.ofChange nestReadsWrong)

/-- 'bulwarklaw7.NestWrites': WHATEVER THE INPUT: true; the input reads as it did. -/
def nestWritesSpec : ChangeSpec := { name := "nestWrites", fn := fun _ => fun
  | [d] => { results := [.lit (.bool true)], args := [d] }
  | _ => none }
def nestWritesRow : OpenClaim := { program := "ytpelolokdmfbdaagreat", sum := "8f774c257d59e06ea7849ee341ff8e8dac31b98aa1ea9c58370fa699d5e83844", func := "bulwark/bulwarklaw7.NestWrites", spec := "nestWrites", apart := false }
def NestWritesSaid : Prop := nestWritesRow.holds Tryz.pinned (OpenSpec.ofChange nestWritesSpec)

/-- ITS FALSE NEIGHBOUR: 'it returns false'. Refute it at one input. -/
def nestWritesWrong : ChangeSpec := { name := "nestWrites", fn := fun _ => fun
  | [d] => { results := [.lit (.bool false)], args := [d] }
  | _ => none }
def NestWritesWrongFalsely : Prop := nestWritesRow.holds Tryz.pinned (OpenSpec.ofChange nestWritesWrong)

/-- 'bulwarklaw7.NestFetches': WHATEVER THE INPUT: true; the input reads as it did. -/
def nestFetchesSpec : ChangeSpec := { name := "nestFetches", fn := fun _ => fun
  | [d] => { results := [.lit (.bool true)], args := [d] }
  | _ => none }
def nestFetchesRow : OpenClaim := { program := "ytpelolokdmfbdaagreat", sum := "8f774c257d59e06ea7849ee341ff8e8dac31b98aa1ea9c58370fa699d5e83844", func := "bulwark/bulwarklaw7.NestFetches", spec := "nestFetches", apart := false }
def NestFetchesSaid : Prop := nestFetchesRow.holds Tryz.pinned (OpenSpec.ofChange nestFetchesSpec)

/-- ITS FALSE NEIGHBOUR: 'it returns false'. Refute it at one input. -/
def nestFetchesWrong : ChangeSpec := { name := "nestFetches", fn := fun _ => fun
  | [d] => { results := [.lit (.bool false)], args := [d] }
  | _ => none }
def NestFetchesWrongFalsely : Prop := nestFetchesRow.holds Tryz.pinned (OpenSpec.ofChange nestFetchesWrong)

/- THE SECOND FORM. 'bulk': how many values and letters a reading holds, each counted each time it is reached (what is shared counts as often as it is met; a slice's spare places count too). A statement '..UptoSaid' is the law's where the arguments, and the package variables that the reading takes, are together of bulk at most 1048576: NARROWER than '..Said'. Prove '..Said' where nothing that the law and all that it calls make is longer than what came in: it says more and counts as full. Else prove '..UptoSaid'. A law counts once. -/
mutual
def uptoBulk {H : Type} : DataW H → Nat
  | .lit (.string bytes) => bytes.length + 1
  | .lit _ => 1
  | .nil => 1
  | .ptr d => uptoBulk d + 1
  | .slice elems spare => uptoBulkAll elems + uptoBulkAll spare + 1
  | .agg parts => uptoBulkAll parts + 1
  | .iface _ d => uptoBulk d + 1
  | .map entries => uptoBulkEntries entries + 1
  | .held _ => 1
def uptoBulkAll {H : Type} : List (DataW H) → Nat
  | [] => 0
  | d :: r => uptoBulk d + uptoBulkAll r
def uptoBulkEntries {H : Type} : List (Lit × DataW H) → Nat
  | [] => 0
  | x :: r => uptoBulkEntry x + uptoBulkEntries r
def uptoBulkEntry {H : Type} : Lit × DataW H → Nat
  | (.string bytes, d) => bytes.length + uptoBulk d + 1
  | (_, d) => uptoBulk d + 1
 end
def uptoSmall : (H : Type) → List (DataW H) → Bool := fun _ ds => decide (uptoBulkAll ds ≤ 1048576)
def OpenSpec.upto (s : _root_.Go.ChangeSpec) : _root_.Go.OpenSpec := { _root_.Go.OpenSpec.ofChange s with cond := some uptoSmall }

/-- 'bulwarklaw7.NestMids', WHERE WHAT IT READS IS OF BULK AT MOST 1048576: true; the input reads as it did. -/
def nestMidsUptoRow : OpenClaim := { program := "ytpelolokdmfbdaagreat", sum := "8f774c257d59e06ea7849ee341ff8e8dac31b98aa1ea9c58370fa699d5e83844", func := "bulwark/bulwarklaw7.NestMids", spec := "nestMids", apart := false, narrowed := true }
def NestMidsUptoSaid : Prop := nestMidsUptoRow.holds Tryz.pinned (OpenSpec.upto nestMidsSpec)

/-- 'bulwarklaw7.NestTrans', WHERE WHAT IT READS IS OF BULK AT MOST 1048576: true; the input reads as it did. -/
def nestTransUptoRow : OpenClaim := { program := "ytpelolokdmfbdaagreat", sum := "8f774c257d59e06ea7849ee341ff8e8dac31b98aa1ea9c58370fa699d5e83844", func := "bulwark/bulwarklaw7.NestTrans", spec := "nestTrans", apart := false, narrowed := true }
def NestTransUptoSaid : Prop := nestTransUptoRow.holds Tryz.pinned (OpenSpec.upto nestTransSpec)

/-- 'bulwarklaw7.NestConfined', WHERE WHAT IT READS IS OF BULK AT MOST 1048576: true; the input reads as it did. -/
def nestConfinedUptoRow : OpenClaim := { program := "ytpelolokdmfbdaagreat", sum := "8f774c257d59e06ea7849ee341ff8e8dac31b98aa1ea9c58370fa699d5e83844", func := "bulwark/bulwarklaw7.NestConfined", spec := "nestConfined", apart := false, narrowed := true }
def NestConfinedUptoSaid : Prop := nestConfinedUptoRow.holds Tryz.pinned (OpenSpec.upto nestConfinedSpec)

/-- 'bulwarklaw7.NestReads', WHERE WHAT IT READS IS OF BULK AT MOST 1048576: true; the input reads as it did. -/
def nestReadsUptoRow : OpenClaim := { program := "ytpelolokdmfbdaagreat", sum := "8f774c257d59e06ea7849ee341ff8e8dac31b98aa1ea9c58370fa699d5e83844", func := "bulwark/bulwarklaw7.NestReads", spec := "nestReads", apart := false, narrowed := true }
def NestReadsUptoSaid : Prop := nestReadsUptoRow.holds Tryz.pinned (OpenSpec.upto nestReadsSpec)

/-- 'bulwarklaw7.NestWrites', WHERE WHAT IT READS IS OF BULK AT MOST 1048576: true; the input reads as it did. -/
def nestWritesUptoRow : OpenClaim := { program := "ytpelolokdmfbdaagreat", sum := "8f774c257d59e06ea7849ee341ff8e8dac31b98aa1ea9c58370fa699d5e83844", func := "bulwark/bulwarklaw7.NestWrites", spec := "nestWrites", apart := false, narrowed := true }
def NestWritesUptoSaid : Prop := nestWritesUptoRow.holds Tryz.pinned (OpenSpec.upto nestWritesSpec)

/-- 'bulwarklaw7.NestFetches', WHERE WHAT IT READS IS OF BULK AT MOST 1048576: true; the input reads as it did. -/
def nestFetchesUptoRow : OpenClaim := { program := "ytpelolokdmfbdaagreat", sum := "8f774c257d59e06ea7849ee341ff8e8dac31b98aa1ea9c58370fa699d5e83844", func := "bulwark/bulwarklaw7.NestFetches", spec := "nestFetches", apart := false, narrowed := true }
def NestFetchesUptoSaid : Prop := nestFetchesUptoRow.holds Tryz.pinned (OpenSpec.upto nestFetchesSpec)

end Rows
end Go.Proofs.YtpelolokdmfbdaaGreat
