/-
  No cell of these rows narrows 'for every input' (looked for: loops, veiled, ifaces, maps, wideKeys, modest, calm, conditions, laid).
  DERIVED. THE GIVEN ROWS OF THIS SEAT. 6 by the template 'for every input the law returns true; each argument reads behind the call as it read before'; 0 by the template 'total and deterministic' (their statements: YtmelepohdbojlaaGreatTotals.lean).
  GIVEN WITH THE SEED: the statements are not yours to turn. If you find one false, say at which input.
  Laid BY PROGRAM, IN A SANDBOX (cutbox-rows.mjs): the forced cells as the released guide's own fill.sh prints them over the translation 20dd7e9633221b71… (all of the seat's roots in one cut). By AI agents, Wed Nov 11 2026. No macro, syntax, notation, axiom, sorry.
-/
import Derived.Test.YtmelepohdbojlaaGreatChecked
import GoSem.Claim
import GoSem.ClaimJoined
import GoSem.ClaimMapViews
import Derived.JoinedTies
import Derived.KernelRfl
namespace Go.Proofs.YtmelepohdbojlaaGreat
/- THE CELL 'sum', in the pinned program and in every row, IS THE sha256 OF THE DUMP (.gsa) THAT YtmelepohdbojlaaGreatProg.lean LOADS. Nothing in Lean hashes anything: it is a label: what it is worth is what the hold of that sum in a sandbox is worth. -/
noncomputable def Tryz.pinned : Pinned := { name := "ytmelepohdbojlaagreat", sum := "20dd7e9633221b711e658ab7433d0c944fcecd6f5b3b8ba9f07e792431d63ffa", checked := Tryz.checked }
namespace Rows
def none {H : Type} : Left H := { results := [], args := [] }

/-- 'bulwarklaw14.AccessExact': WHATEVER THE INPUT: true; the input reads as it did. -/
def accessExactSpec : ChangeSpec := { name := "accessExact", fn := fun _ => fun
  | [d] => { results := [.lit (.bool true)], args := [d] }
  | _ => none }
def accessExactRow : OpenClaim := { program := "ytmelepohdbojlaagreat", sum := "20dd7e9633221b711e658ab7433d0c944fcecd6f5b3b8ba9f07e792431d63ffa", func := "bulwark/bulwarklaw14.AccessExact", spec := "accessExact", apart := false }
def AccessExactSaid : Prop := accessExactRow.holds Tryz.pinned (OpenSpec.ofChange accessExactSpec)

/-- ITS FALSE NEIGHBOUR: 'it returns false'. Refute it at one input. -/
def accessExactWrong : ChangeSpec := { name := "accessExact", fn := fun _ => fun
  | [d] => { results := [.lit (.bool false)], args := [d] }
  | _ => none }
def AccessExactWrongFalsely : Prop := accessExactRow.holds Tryz.pinned (OpenSpec.ofChange accessExactWrong)

/-- 'bulwarklaw14.AccessPlain': WHATEVER THE INPUT: true; the input reads as it did. -/
def accessPlainSpec : ChangeSpec := { name := "accessPlain", fn := fun _ => fun
  | [d] => { results := [.lit (.bool true)], args := [d] }
  | _ => none }
def accessPlainRow : OpenClaim := { program := "ytmelepohdbojlaagreat", sum := "20dd7e9633221b711e658ab7433d0c944fcecd6f5b3b8ba9f07e792431d63ffa", func := "bulwark/bulwarklaw14.AccessPlain", spec := "accessPlain", apart := false }
def AccessPlainSaid : Prop := accessPlainRow.holds Tryz.pinned (OpenSpec.ofChange accessPlainSpec)

/-- ITS FALSE NEIGHBOUR: 'it returns false'. Refute it at one input. -/
def accessPlainWrong : ChangeSpec := { name := "accessPlain", fn := fun _ => fun
  | [d] => { results := [.lit (.bool false)], args := [d] }
  | _ => none }
def AccessPlainWrongFalsely : Prop := accessPlainRow.holds Tryz.pinned (OpenSpec.ofChange accessPlainWrong)

/-- 'bulwarklaw14.AccessFills': WHATEVER THE INPUT: true; the input reads as it did. -/
def accessFillsSpec : ChangeSpec := { name := "accessFills", fn := fun _ => fun
  | [d] => { results := [.lit (.bool true)], args := [d] }
  | _ => none }
def accessFillsRow : OpenClaim := { program := "ytmelepohdbojlaagreat", sum := "20dd7e9633221b711e658ab7433d0c944fcecd6f5b3b8ba9f07e792431d63ffa", func := "bulwark/bulwarklaw14.AccessFills", spec := "accessFills", apart := false }
def AccessFillsSaid : Prop := accessFillsRow.holds Tryz.pinned (OpenSpec.ofChange accessFillsSpec)

/-- ITS FALSE NEIGHBOUR: 'it returns false'. Refute it at one input. -/
def accessFillsWrong : ChangeSpec := { name := "accessFills", fn := fun _ => fun
  | [d] => { results := [.lit (.bool false)], args := [d] }
  | _ => none }
def AccessFillsWrongFalsely : Prop := accessFillsRow.holds Tryz.pinned (OpenSpec.ofChange accessFillsWrong)

/-- 'bulwarklaw14.AccessMids': WHATEVER THE INPUT: true; the input reads as it did. -/
def accessMidsSpec : ChangeSpec := { name := "accessMids", fn := fun _ => fun
  | [d] => { results := [.lit (.bool true)], args := [d] }
  | _ => none }
def accessMidsRow : OpenClaim := { program := "ytmelepohdbojlaagreat", sum := "20dd7e9633221b711e658ab7433d0c944fcecd6f5b3b8ba9f07e792431d63ffa", func := "bulwark/bulwarklaw14.AccessMids", spec := "accessMids", apart := false }
def AccessMidsSaid : Prop := accessMidsRow.holds Tryz.pinned (OpenSpec.ofChange accessMidsSpec)

/-- ITS FALSE NEIGHBOUR: 'it returns false'. Refute it at one input. -/
def accessMidsWrong : ChangeSpec := { name := "accessMids", fn := fun _ => fun
  | [d] => { results := [.lit (.bool false)], args := [d] }
  | _ => none }
def AccessMidsWrongFalsely : Prop := accessMidsRow.holds Tryz.pinned (OpenSpec.ofChange accessMidsWrong)

/-- 'bulwarklaw14.AccessWalks': WHATEVER THE INPUT: true; the input reads as it did. -/
def accessWalksSpec : ChangeSpec := { name := "accessWalks", fn := fun _ => fun
  | [d] => { results := [.lit (.bool true)], args := [d] }
  | _ => none }
def accessWalksRow : OpenClaim := { program := "ytmelepohdbojlaagreat", sum := "20dd7e9633221b711e658ab7433d0c944fcecd6f5b3b8ba9f07e792431d63ffa", func := "bulwark/bulwarklaw14.AccessWalks", spec := "accessWalks", apart := false }
def AccessWalksSaid : Prop := accessWalksRow.holds Tryz.pinned (OpenSpec.ofChange accessWalksSpec)

/-- ITS FALSE NEIGHBOUR: 'it returns false'. Refute it at one input. -/
def accessWalksWrong : ChangeSpec := { name := "accessWalks", fn := fun _ => fun
  | [d] => { results := [.lit (.bool false)], args := [d] }
  | _ => none }
def AccessWalksWrongFalsely : Prop := accessWalksRow.holds Tryz.pinned (OpenSpec.ofChange accessWalksWrong)

/-- 'bulwarklaw14.AccessUses': WHATEVER THE INPUT: true; the input reads as it did. -/
def accessUsesSpec : ChangeSpec := { name := "accessUses", fn := fun _ => fun
  | [d] => { results := [.lit (.bool true)], args := [d] }
  | _ => none }
def accessUsesRow : OpenClaim := { program := "ytmelepohdbojlaagreat", sum := "20dd7e9633221b711e658ab7433d0c944fcecd6f5b3b8ba9f07e792431d63ffa", func := "bulwark/bulwarklaw14.AccessUses", spec := "accessUses", apart := false }
def AccessUsesSaid : Prop := accessUsesRow.holds Tryz.pinned (OpenSpec.ofChange accessUsesSpec)

/-- ITS FALSE NEIGHBOUR: 'it returns false'. Refute it at one input. -/
def accessUsesWrong : ChangeSpec := { name := "accessUses", fn := fun _ => fun
  | [d] => { results := [.lit (.bool false)], args := [d] }
  | _ => none }
def AccessUsesWrongFalsely : Prop := accessUsesRow.holds Tryz.pinned (OpenSpec.ofChange accessUsesWrong)

/- THE SECOND FORM. 'bulk': how many values and letters a reading holds, each counted each time it is reached (what is shared counts as often as it is met; a slice's spare places count too). A statement '..UptoSaid' is the law's where the arguments, and the package variables that the reading takes, are together of bulk at most 1048576: NARROWER than '..Said'. Prove '..Said' where nothing that the law and all that it calls make is longer than what came in: it says more and counts as full. Else prove '..UptoSaid'. A law counts once. -/
mutual
def uptoBulk {H : Type} : DataW H → Nat
  | .lit (.string bytes) => bytes.length + 1
  | .lit _ => 1
  | .nil => 1
  | .ptr d => uptoBulk d + 1
  | .slice elems spare => uptoBulkAll elems + uptoBulkAll spare + 1
  | .agg parts => uptoBulkAll parts + 1
  | .iface _ d => uptoBulk d + 1
  | .map entries => uptoBulkEntries entries + 1
  | .held _ => 1
def uptoBulkAll {H : Type} : List (DataW H) → Nat
  | [] => 0
  | d :: r => uptoBulk d + uptoBulkAll r
def uptoBulkEntries {H : Type} : List (Lit × DataW H) → Nat
  | [] => 0
  | x :: r => uptoBulkEntry x + uptoBulkEntries r
def uptoBulkEntry {H : Type} : Lit × DataW H → Nat
  | (.string bytes, d) => bytes.length + uptoBulk d + 1
  | (_, d) => uptoBulk d + 1
 end
def uptoSmall : (H : Type) → List (DataW H) → Bool := fun _ ds => decide (uptoBulkAll ds ≤ 1048576)
def OpenSpec.upto (s : _root_.Go.ChangeSpec) : _root_.Go.OpenSpec := { _root_.Go.OpenSpec.ofChange s with cond := some uptoSmall }

/-- 'bulwarklaw14.AccessExact', WHERE WHAT IT READS IS OF BULK AT MOST 1048576: true; the input reads as it did. -/
def accessExactUptoRow : OpenClaim := { program := "ytmelepohdbojlaagreat", sum := "20dd7e9633221b711e658ab7433d0c944fcecd6f5b3b8ba9f07e792431d63ffa", func := "bulwark/bulwarklaw14.AccessExact", spec := "accessExact", apart := false, narrowed := true }
def AccessExactUptoSaid : Prop := accessExactUptoRow.holds Tryz.pinned (OpenSpec.upto accessExactSpec)

/-- 'bulwarklaw14.AccessPlain', WHERE WHAT IT READS IS OF BULK AT MOST 1048576: true; the input reads as it did. -/
def accessPlainUptoRow : OpenClaim := { program := "ytmelepohdbojlaagreat", sum := "20dd7e9633221b711e658ab7433d0c944fcecd6f5b3b8ba9f07e792431d63ffa", func := "bulwark/bulwarklaw14.AccessPlain", spec := "accessPlain", apart := false, narrowed := true }
def AccessPlainUptoSaid : Prop := accessPlainUptoRow.holds Tryz.pinned (OpenSpec.upto accessPlainSpec)

/-- 'bulwarklaw14.AccessFills', WHERE WHAT IT READS IS OF BULK AT MOST 1048576: true; the input reads as it did. -/
def accessFillsUptoRow : OpenClaim := { program := "ytmelepohdbojlaagreat", sum := "20dd7e9633221b711e658ab7433d0c944fcecd6f5b3b8ba9f07e792431d63ffa", func := "bulwark/bulwarklaw14.AccessFills", spec := "accessFills", apart := false, narrowed := true }
def AccessFillsUptoSaid : Prop := accessFillsUptoRow.holds Tryz.pinned (OpenSpec.upto accessFillsSpec)

/-- 'bulwarklaw14.AccessMids', WHERE WHAT IT READS IS OF BULK AT MOST 1048576: true; the input reads as it did. -/
def accessMidsUptoRow : OpenClaim := { program := "ytmelepohdbojlaagreat", sum := "20dd7e9633221b711e658ab7433d0c944fcecd6f5b3b8ba9f07e792431d63ffa", func := "bulwark/bulwarklaw14.AccessMids", spec := "accessMids", apart := false, narrowed := true }
def AccessMidsUptoSaid : Prop := accessMidsUptoRow.holds Tryz.pinned (OpenSpec.upto accessMidsSpec)

/-- 'bulwarklaw14.AccessWalks', WHERE WHAT IT READS IS OF BULK AT MOST 1048576: true; the input reads as it did. -/
def accessWalksUptoRow : OpenClaim := { program := "ytmelepohdbojlaagreat", sum := "20dd7e9633221b711e658ab7433d0c944fcecd6f5b3b8ba9f07e792431d63ffa", func := "bulwark/bulwarklaw14.AccessWalks", spec := "accessWalks", apart := false, narrowed := true }
def AccessWalksUptoSaid : Prop := accessWalksUptoRow.holds Tryz.pinned (OpenSpec.upto accessWalksSpec)

/-- 'bulwarklaw14.AccessUses', WHERE WHAT IT READS IS OF BULK AT MOST 1048576: true; the input reads as it did. -/
def accessUsesUptoRow : OpenClaim := { program := "ytmelepohdbojlaagreat", sum := "20dd7e9633221b711e658ab7433d0c944fcecd6f5b3b8ba9f07e792431d63ffa", func := "bulwark/bulwarklaw14.AccessUses", spec := "accessUses", apart := false, narrowed := true }
def AccessUsesUptoSaid : Prop := accessUsesUptoRow.holds Tryz.pinned (OpenSpec.upto accessUsesSpec)

end Rows
end Go.Proofs.YtmelepohdbojlaaGreat
