/-
  No cell of these rows narrows 'for every input' (looked for: loops, veiled, ifaces, maps, wideKeys, modest, calm, conditions, laid).
  DERIVED. THE GIVEN ROWS OF THIS SEAT. 4 by the template 'for every input the law returns true; each argument reads behind the call as it read before'; 0 by the template 'total and deterministic' (their statements: YtbhnjaajkolklaaGreatTotals.lean).
  GIVEN WITH THE SEED: the statements are not yours to turn. If you find one false, say at which input.
  Laid BY PROGRAM, IN A SANDBOX (cutbox-rows.mjs): the forced cells as the released guide's own fill.sh prints them over the translation 8f21d2e148c8de18… (all of the seat's roots in one cut). By AI agents, Wed Nov 11 2026. No macro, syntax, notation, axiom, sorry.
-/
import Derived.Test.YtbhnjaajkolklaaGreatChecked
import GoSem.Claim
import GoSem.ClaimJoined
import GoSem.ClaimMapViews
import Derived.JoinedTies
import Derived.KernelRfl
namespace Go.Proofs.YtbhnjaajkolklaaGreat
/- THE CELL 'sum', in the pinned program and in every row, IS THE sha256 OF THE DUMP (.gsa) THAT YtbhnjaajkolklaaGreatProg.lean LOADS. Nothing in Lean hashes anything: it is a label: what it is worth is what the hold of that sum in a sandbox is worth. -/
noncomputable def Tryz.pinned : Pinned := { name := "ytbhnjaajkolklaagreat", sum := "8f21d2e148c8de1820793c0867791c5a0822e8dcd614730bac1568e17a69db0b", checked := Tryz.checked }
namespace Rows
def none {H : Type} : Left H := { results := [], args := [] }

/-- 'bulwarklaw16.PgtAlls': WHATEVER THE INPUT: true; the input reads as it did. -/
def pgtAllsSpec : ChangeSpec := { name := "pgtAlls", fn := fun _ => fun
  | [d] => { results := [.lit (.bool true)], args := [d] }
  | _ => none }
def pgtAllsRow : OpenClaim := { program := "ytbhnjaajkolklaagreat", sum := "8f21d2e148c8de1820793c0867791c5a0822e8dcd614730bac1568e17a69db0b", func := "bulwark/bulwarklaw16.PgtAlls", spec := "pgtAlls", apart := false }
def PgtAllsSaid : Prop := pgtAllsRow.holds Tryz.pinned (OpenSpec.ofChange pgtAllsSpec)

/-- ITS FALSE NEIGHBOUR: 'it returns false'. Refute it at one input. -/
def pgtAllsWrong : ChangeSpec := { name := "pgtAlls", fn := fun _ => fun
  | [d] => { results := [.lit (.bool false)], args := [d] }
  | _ => none }
def PgtAllsWrongFalsely : Prop := pgtAllsRow.holds Tryz.pinned (OpenSpec.ofChange pgtAllsWrong)

/-- 'bulwarklaw16.PgtMaps': WHATEVER THE INPUT: true; the input reads as it did. -/
def pgtMapsSpec : ChangeSpec := { name := "pgtMaps", fn := fun _ => fun
  | [d] => { results := [.lit (.bool true)], args := [d] }
  | _ => none }
def pgtMapsRow : OpenClaim := { program := "ytbhnjaajkolklaagreat", sum := "8f21d2e148c8de1820793c0867791c5a0822e8dcd614730bac1568e17a69db0b", func := "bulwark/bulwarklaw16.PgtMaps", spec := "pgtMaps", apart := false }
def PgtMapsSaid : Prop := pgtMapsRow.holds Tryz.pinned (OpenSpec.ofChange pgtMapsSpec)

/-- ITS FALSE NEIGHBOUR: 'it returns false'. Refute it at one input. -/
def pgtMapsWrong : ChangeSpec := { name := "pgtMaps", fn := fun _ => fun
  | [d] => { results := [.lit (.bool false)], args := [d] }
  | _ => none }
def PgtMapsWrongFalsely : Prop := pgtMapsRow.holds Tryz.pinned (OpenSpec.ofChange pgtMapsWrong)

/-- 'bulwarklaw16.PgtUnmaps': WHATEVER THE INPUT: true; the input reads as it did. -/
def pgtUnmapsSpec : ChangeSpec := { name := "pgtUnmaps", fn := fun _ => fun
  | [d] => { results := [.lit (.bool true)], args := [d] }
  | _ => none }
def pgtUnmapsRow : OpenClaim := { program := "ytbhnjaajkolklaagreat", sum := "8f21d2e148c8de1820793c0867791c5a0822e8dcd614730bac1568e17a69db0b", func := "bulwark/bulwarklaw16.PgtUnmaps", spec := "pgtUnmaps", apart := false }
def PgtUnmapsSaid : Prop := pgtUnmapsRow.holds Tryz.pinned (OpenSpec.ofChange pgtUnmapsSpec)

/-- ITS FALSE NEIGHBOUR: 'it returns false'. Refute it at one input. -/
def pgtUnmapsWrong : ChangeSpec := { name := "pgtUnmaps", fn := fun _ => fun
  | [d] => { results := [.lit (.bool false)], args := [d] }
  | _ => none }
def PgtUnmapsWrongFalsely : Prop := pgtUnmapsRow.holds Tryz.pinned (OpenSpec.ofChange pgtUnmapsWrong)

/-- 'bulwarklaw16.PgtSplits': WHATEVER THE INPUT: true; the input reads as it did. -/
def pgtSplitsSpec : ChangeSpec := { name := "pgtSplits", fn := fun _ => fun
  | [d] => { results := [.lit (.bool true)], args := [d] }
  | _ => none }
def pgtSplitsRow : OpenClaim := { program := "ytbhnjaajkolklaagreat", sum := "8f21d2e148c8de1820793c0867791c5a0822e8dcd614730bac1568e17a69db0b", func := "bulwark/bulwarklaw16.PgtSplits", spec := "pgtSplits", apart := false }
def PgtSplitsSaid : Prop := pgtSplitsRow.holds Tryz.pinned (OpenSpec.ofChange pgtSplitsSpec)

/-- ITS FALSE NEIGHBOUR: 'it returns false'. Refute it at one input. -/
def pgtSplitsWrong : ChangeSpec := { name := "pgtSplits", fn := fun _ => fun
  | [d] => { results := [.lit (.bool false)], args := [d] }
  | _ => none }
def PgtSplitsWrongFalsely : Prop := pgtSplitsRow.holds Tryz.pinned (OpenSpec.ofChange pgtSplitsWrong)

/- THE SECOND FORM. 'bulk': how many values and letters a reading holds, each counted each time it is reached (what is shared counts as often as it is met; a slice's spare places count too). A statement '..UptoSaid' is the law's where the arguments, and the package variables that the reading takes, are together of bulk at most 1048576: NARROWER than '..Said'. Prove '..Said' where nothing that the law and all that it calls make is longer than what came in: it says more and counts as full. Else prove '..UptoSaid'. A law counts once. -/
mutual
def uptoBulk {H : Type} : DataW H → Nat
  | .lit (.string bytes) => bytes.length + 1
  | .lit _ => 1
  | .nil => 1
  | .ptr d => uptoBulk d + 1
  | .slice elems spare => uptoBulkAll elems + uptoBulkAll spare + 1
  | .agg parts => uptoBulkAll parts + 1
  | .iface _ d => uptoBulk d + 1
  | .map entries => uptoBulkEntries entries + 1
  | .held _ => 1
def uptoBulkAll {H : Type} : List (DataW H) → Nat
  | [] => 0
  | d :: r => uptoBulk d + uptoBulkAll r
def uptoBulkEntries {H : Type} : List (Lit × DataW H) → Nat
  | [] => 0
  | x :: r => uptoBulkEntry x + uptoBulkEntries r
def uptoBulkEntry {H : Type} : Lit × DataW H → Nat
  | (.string bytes, d) => bytes.length + uptoBulk d + 1
  | (_, d) => uptoBulk d + 1
 end
def uptoSmall : (H : Type) → List (DataW H) → Bool := fun _ ds => decide (uptoBulkAll ds ≤ 1048576)
def OpenSpec.upto (s : _root_.Go.ChangeSpec) : _root_.Go.OpenSpec := { _root_.Go.OpenSpec.ofChange s with cond := some uptoSmall }

/-- 'bulwarklaw16.PgtAlls', WHERE WHAT IT READS IS OF BULK AT MOST 1048576: true; the input reads as it did. -/
def pgtAllsUptoRow : OpenClaim := { program := "ytbhnjaajkolklaagreat", sum := "8f21d2e148c8de1820793c0867791c5a0822e8dcd614730bac1568e17a69db0b", func := "bulwark/bulwarklaw16.PgtAlls", spec := "pgtAlls", apart := false, narrowed := true }
def PgtAllsUptoSaid : Prop := pgtAllsUptoRow.holds Tryz.pinned (OpenSpec.upto pgtAllsSpec)

/-- 'bulwarklaw16.PgtMaps', WHERE WHAT IT READS IS OF BULK AT MOST 1048576: true; the input reads as it did. -/
def pgtMapsUptoRow : OpenClaim := { program := "ytbhnjaajkolklaagreat", sum := "8f21d2e148c8de1820793c0867791c5a0822e8dcd614730bac1568e17a69db0b", func := "bulwark/bulwarklaw16.PgtMaps", spec := "pgtMaps", apart := false, narrowed := true }
def PgtMapsUptoSaid : Prop := pgtMapsUptoRow.holds Tryz.pinned (OpenSpec.upto pgtMapsSpec)

/-- 'bulwarklaw16.PgtUnmaps', WHERE WHAT IT READS IS OF BULK AT MOST 1048576: true; the input reads as it did. -/
def pgtUnmapsUptoRow : OpenClaim := { program := "ytbhnjaajkolklaagreat", sum := "8f21d2e148c8de1820793c0867791c5a0822e8dcd614730bac1568e17a69db0b", func := "bulwark/bulwarklaw16.PgtUnmaps", spec := "pgtUnmaps", apart := false, narrowed := true }
def PgtUnmapsUptoSaid : Prop := pgtUnmapsUptoRow.holds Tryz.pinned (OpenSpec.upto pgtUnmapsSpec)

/-- 'bulwarklaw16.PgtSplits', WHERE WHAT IT READS IS OF BULK AT MOST 1048576: true; the input reads as it did. -/
def pgtSplitsUptoRow : OpenClaim := { program := "ytbhnjaajkolklaagreat", sum := "8f21d2e148c8de1820793c0867791c5a0822e8dcd614730bac1568e17a69db0b", func := "bulwark/bulwarklaw16.PgtSplits", spec := "pgtSplits", apart := false, narrowed := true }
def PgtSplitsUptoSaid : Prop := pgtSplitsUptoRow.holds Tryz.pinned (OpenSpec.upto pgtSplitsSpec)

end Rows
end Go.Proofs.YtbhnjaajkolklaaGreat
