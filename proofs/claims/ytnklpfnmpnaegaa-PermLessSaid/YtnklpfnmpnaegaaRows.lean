/-
  No cell of these rows narrows 'for every input' (looked for: loops, veiled, ifaces, maps, wideKeys, modest, calm, conditions, laid).
  DERIVED. THE GIVEN ROWS OF THIS SEAT. 3 by the template 'for every input the law returns true; each argument reads behind the call as it read before'; 0 by the template 'total and deterministic' (their statements: YtnklpfnmpnaegaaTotals.lean).
  GIVEN WITH THE SEED: the statements are not yours to turn. If you find one false, say at which input.
  Laid BY PROGRAM, IN A SANDBOX (cutbox-rows.mjs): the forced cells as the released guide's own fill.sh prints them over the translation 108e96673a616e87… (all of the seat's roots in one cut). By AI agents, Wed Nov 11 2026. No macro, syntax, notation, axiom, sorry.
-/
import Derived.Test.YtnklpfnmpnaegaaChecked
import GoSem.Claim
import GoSem.ClaimJoined
import GoSem.ClaimMapViews
import Derived.JoinedTies
import Derived.KernelRfl
namespace Go.Proofs.Ytnklpfnmpnaegaa
/- THE CELL 'sum', in the pinned program and in every row, IS THE sha256 OF THE DUMP (.gsa) THAT YtnklpfnmpnaegaaProg.lean LOADS. Nothing in Lean hashes anything: it is a label: what it is worth is what the hold of that sum in a sandbox is worth. -/
noncomputable def Try.pinned : Pinned := { name := "ytnklpfnmpnaegaa", sum := "108e96673a616e876263bde24adc4837406395488a649bdcb3483c1f65c08f89", checked := Try.checked }
namespace Rows
def none {H : Type} : Left H := { results := [], args := [] }

/-- 'bulwarklaw6.PermMays': WHATEVER THE INPUT: true; the input reads as it did. -/
def permMaysSpec : ChangeSpec := { name := "permMays", fn := fun _ => fun
  | [d] => { results := [.lit (.bool true)], args := [d] }
  | _ => none }
def permMaysRow : OpenClaim := { program := "ytnklpfnmpnaegaa", sum := "108e96673a616e876263bde24adc4837406395488a649bdcb3483c1f65c08f89", func := "bulwark/bulwarklaw6.PermMays", spec := "permMays", apart := false }
def PermMaysSaid : Prop := permMaysRow.holds Try.pinned (OpenSpec.ofChange permMaysSpec)

/-- ITS FALSE NEIGHBOUR: 'it returns false'. Refute it at one input. -/
def permMaysWrong : ChangeSpec := { name := "permMays", fn := fun _ => fun
  | [d] => { results := [.lit (.bool false)], args := [d] }
  | _ => none }
def PermMaysWrongFalsely : Prop := permMaysRow.holds Try.pinned (OpenSpec.ofChange permMaysWrong)

/-- 'bulwarklaw6.PermBoths': WHATEVER THE INPUT: true; the input reads as it did. -/
def permBothsSpec : ChangeSpec := { name := "permBoths", fn := fun _ => fun
  | [d] => { results := [.lit (.bool true)], args := [d] }
  | _ => none }
def permBothsRow : OpenClaim := { program := "ytnklpfnmpnaegaa", sum := "108e96673a616e876263bde24adc4837406395488a649bdcb3483c1f65c08f89", func := "bulwark/bulwarklaw6.PermBoths", spec := "permBoths", apart := false }
def PermBothsSaid : Prop := permBothsRow.holds Try.pinned (OpenSpec.ofChange permBothsSpec)

/-- ITS FALSE NEIGHBOUR: 'it returns false'. Refute it at one input. -/
def permBothsWrong : ChangeSpec := { name := "permBoths", fn := fun _ => fun
  | [d] => { results := [.lit (.bool false)], args := [d] }
  | _ => none }
def PermBothsWrongFalsely : Prop := permBothsRow.holds Try.pinned (OpenSpec.ofChange permBothsWrong)

/-- 'bulwarklaw6.PermLess': WHATEVER THE INPUT: true; the input reads as it did. -/
def permLessSpec : ChangeSpec := { name := "permLess", fn := fun _ => fun
  | [d] => { results := [.lit (.bool true)], args := [d] }
  | _ => none }
def permLessRow : OpenClaim := { program := "ytnklpfnmpnaegaa", sum := "108e96673a616e876263bde24adc4837406395488a649bdcb3483c1f65c08f89", func := "bulwark/bulwarklaw6.PermLess", spec := "permLess", apart := false }
def PermLessSaid : Prop := permLessRow.holds Try.pinned (OpenSpec.ofChange permLessSpec)

/-- ITS FALSE NEIGHBOUR: 'it returns false'. Refute it at one input. -/
def permLessWrong : ChangeSpec := { name := "permLess", fn := fun _ => fun
  | [d] => { results := [.lit (.bool false)], args := [d] }
  | _ => none }
def PermLessWrongFalsely : Prop := permLessRow.holds Try.pinned (OpenSpec.ofChange permLessWrong)

/- THE SECOND FORM. 'bulk': how many values and letters a reading holds, each counted each time it is reached (what is shared counts as often as it is met; a slice's spare places count too). A statement '..UptoSaid' is the law's where the arguments, and the package variables that the reading takes, are together of bulk at most 1048576: NARROWER than '..Said'. Prove '..Said' where nothing that the law and all that it calls make is longer than what came in: it says more and counts as full. Else prove '..UptoSaid'. A law counts once. -/
mutual
def uptoBulk {H : Type} : DataW H → Nat
  | .lit (.string bytes) => bytes.length + 1
  | .lit _ => 1
  | .nil => 1
  | .ptr d => uptoBulk d + 1
  | .slice elems spare => uptoBulkAll elems + uptoBulkAll spare + 1
  | .agg parts => uptoBulkAll parts + 1
  | .iface _ d => uptoBulk d + 1
  | .map entries => uptoBulkEntries entries + 1
  | .held _ => 1
def uptoBulkAll {H : Type} : List (DataW H) → Nat
  | [] => 0
  | d :: r => uptoBulk d + uptoBulkAll r
def uptoBulkEntries {H : Type} : List (Lit × DataW H) → Nat
  | [] => 0
  | x :: r => uptoBulkEntry x + uptoBulkEntries r
def uptoBulkEntry {H : Type} : Lit × DataW H → Nat
  | (.string bytes, d) => bytes.length + uptoBulk d + 1
  | (_, d) => uptoBulk d + 1
 end
def uptoSmall : (H : Type) → List (DataW H) → Bool := fun _ ds => decide (uptoBulkAll ds ≤ 1048576)
def OpenSpec.upto (s : _root_.Go.ChangeSpec) : _root_.Go.OpenSpec := { _root_.Go.OpenSpec.ofChange s with cond := some uptoSmall }

/-- 'bulwarklaw6.PermMays', WHERE WHAT IT READS IS OF BULK AT MOST 1048576: true; the input reads as it did. -/
def permMaysUptoRow : OpenClaim := { program := "ytnklpfnmpnaegaa", sum := "108e96673a616e876263bde24adc4837406395488a649bdcb3483c1f65c08f89", func := "bulwark/bulwarklaw6.PermMays", spec := "permMays", apart := false, narrowed := true }
def PermMaysUptoSaid : Prop := permMaysUptoRow.holds Try.pinned (OpenSpec.upto permMaysSpec)

/-- 'bulwarklaw6.PermBoths', WHERE WHAT IT READS IS OF BULK AT MOST 1048576: true; the input reads as it did. -/
def permBothsUptoRow : OpenClaim := { program := "ytnklpfnmpnaegaa", sum := "108e96673a616e876263bde24adc4837406395488a649bdcb3483c1f65c08f89", func := "bulwark/bulwarklaw6.PermBoths", spec := "permBoths", apart := false, narrowed := true }
def PermBothsUptoSaid : Prop := permBothsUptoRow.holds Try.pinned (OpenSpec.upto permBothsSpec)

/-- 'bulwarklaw6.PermLess', WHERE WHAT IT READS IS OF BULK AT MOST 1048576: true; the input reads as it did. -/
def permLessUptoRow : OpenClaim := { program := "ytnklpfnmpnaegaa", sum := "108e96673a616e876263bde24adc4837406395488a649bdcb3483c1f65c08f89", func := "bulwark/bulwarklaw6.PermLess", spec := "permLess", apart := false, narrowed := true }
def PermLessUptoSaid : Prop := permLessUptoRow.holds Try.pinned (OpenSpec.upto permLessSpec)

end Rows
end Go.Proofs.Ytnklpfnmpnaegaa
