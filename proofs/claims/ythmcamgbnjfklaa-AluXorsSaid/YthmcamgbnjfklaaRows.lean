/-
  No cell of these rows narrows 'for every input' (looked for: loops, veiled, ifaces, maps, wideKeys, modest, calm, conditions, laid).
  DERIVED. THE GIVEN ROWS OF THIS SEAT. 8 by the template 'for every input the law returns true; each argument reads behind the call as it read before'; 0 by the template 'total and deterministic' (their statements: YthmcamgbnjfklaaTotals.lean).
  GIVEN WITH THE SEED: the statements are not yours to turn. If you find one false, say at which input.
  Laid BY PROGRAM, IN A SANDBOX (cutbox-rows.mjs): the forced cells as the released guide's own fill.sh prints them over the translation 4dc4b2845841c60b… (all of the seat's roots in one cut). By AI agents, Wed Nov 11 2026. No macro, syntax, notation, axiom, sorry.
-/
import Derived.Test.YthmcamgbnjfklaaChecked
import GoSem.Claim
import GoSem.ClaimJoined
import GoSem.ClaimMapViews
import Derived.JoinedTies
import Derived.KernelRfl
namespace Go.Proofs.Ythmcamgbnjfklaa
/- THE CELL 'sum', in the pinned program and in every row, IS THE sha256 OF THE DUMP (.gsa) THAT YthmcamgbnjfklaaProg.lean LOADS. Nothing in Lean hashes anything: it is a label: what it is worth is what the hold of that sum in a sandbox is worth. -/
noncomputable def Try.pinned : Pinned := { name := "ythmcamgbnjfklaa", sum := "4dc4b2845841c60b35d4a8c4d68cff73dc3ce63fbc9620260b20420fa84dc811", checked := Try.checked }
namespace Rows
def none {H : Type} : Left H := { results := [], args := [] }

/-- 'bulwarklaw12.AluDoes': WHATEVER THE INPUT: true; the input reads as it did. -/
def aluDoesSpec : ChangeSpec := { name := "aluDoes", fn := fun _ => fun
  | [d] => { results := [.lit (.bool true)], args := [d] }
  | _ => none }
def aluDoesRow : OpenClaim := { program := "ythmcamgbnjfklaa", sum := "4dc4b2845841c60b35d4a8c4d68cff73dc3ce63fbc9620260b20420fa84dc811", func := "bulwark/bulwarklaw12.AluDoes", spec := "aluDoes", apart := false }
def AluDoesSaid : Prop := aluDoesRow.holds Try.pinned (OpenSpec.ofChange aluDoesSpec)

/-- ITS FALSE NEIGHBOUR: 'it returns false'. Refute it at one input. -/
def aluDoesWrong : ChangeSpec := { name := "aluDoes", fn := fun _ => fun
  | [d] => { results := [.lit (.bool false)], args := [d] }
  | _ => none }
def AluDoesWrongFalsely : Prop := aluDoesRow.holds Try.pinned (OpenSpec.ofChange aluDoesWrong)

/-- 'bulwarklaw12.AluBack': WHATEVER THE INPUT: true; the input reads as it did. -/
def aluBackSpec : ChangeSpec := { name := "aluBack", fn := fun _ => fun
  | [d] => { results := [.lit (.bool true)], args := [d] }
  | _ => none }
def aluBackRow : OpenClaim := { program := "ythmcamgbnjfklaa", sum := "4dc4b2845841c60b35d4a8c4d68cff73dc3ce63fbc9620260b20420fa84dc811", func := "bulwark/bulwarklaw12.AluBack", spec := "aluBack", apart := false }
def AluBackSaid : Prop := aluBackRow.holds Try.pinned (OpenSpec.ofChange aluBackSpec)

/-- ITS FALSE NEIGHBOUR: 'it returns false'. Refute it at one input. -/
def aluBackWrong : ChangeSpec := { name := "aluBack", fn := fun _ => fun
  | [d] => { results := [.lit (.bool false)], args := [d] }
  | _ => none }
def AluBackWrongFalsely : Prop := aluBackRow.holds Try.pinned (OpenSpec.ofChange aluBackWrong)

/-- 'bulwarklaw12.AluMoves': WHATEVER THE INPUT: true; the input reads as it did. -/
def aluMovesSpec : ChangeSpec := { name := "aluMoves", fn := fun _ => fun
  | [d] => { results := [.lit (.bool true)], args := [d] }
  | _ => none }
def aluMovesRow : OpenClaim := { program := "ythmcamgbnjfklaa", sum := "4dc4b2845841c60b35d4a8c4d68cff73dc3ce63fbc9620260b20420fa84dc811", func := "bulwark/bulwarklaw12.AluMoves", spec := "aluMoves", recurses := true, apart := false }
def AluMovesSaid : Prop := aluMovesRow.holds Try.pinned (OpenSpec.ofChange aluMovesSpec)

/-- ITS FALSE NEIGHBOUR: 'it returns false'. Refute it at one input. -/
def aluMovesWrong : ChangeSpec := { name := "aluMoves", fn := fun _ => fun
  | [d] => { results := [.lit (.bool false)], args := [d] }
  | _ => none }
def AluMovesWrongFalsely : Prop := aluMovesRow.holds Try.pinned (OpenSpec.ofChange aluMovesWrong)

/-- 'bulwarklaw12.AluAdds': WHATEVER THE INPUT: true; the input reads as it did. -/
def aluAddsSpec : ChangeSpec := { name := "aluAdds", fn := fun _ => fun
  | [d] => { results := [.lit (.bool true)], args := [d] }
  | _ => none }
def aluAddsRow : OpenClaim := { program := "ythmcamgbnjfklaa", sum := "4dc4b2845841c60b35d4a8c4d68cff73dc3ce63fbc9620260b20420fa84dc811", func := "bulwark/bulwarklaw12.AluAdds", spec := "aluAdds", recurses := true, apart := false }
def AluAddsSaid : Prop := aluAddsRow.holds Try.pinned (OpenSpec.ofChange aluAddsSpec)

/-- ITS FALSE NEIGHBOUR: 'it returns false'. Refute it at one input. -/
def aluAddsWrong : ChangeSpec := { name := "aluAdds", fn := fun _ => fun
  | [d] => { results := [.lit (.bool false)], args := [d] }
  | _ => none }
def AluAddsWrongFalsely : Prop := aluAddsRow.holds Try.pinned (OpenSpec.ofChange aluAddsWrong)

/-- 'bulwarklaw12.AluSubs': WHATEVER THE INPUT: true; the input reads as it did. -/
def aluSubsSpec : ChangeSpec := { name := "aluSubs", fn := fun _ => fun
  | [d] => { results := [.lit (.bool true)], args := [d] }
  | _ => none }
def aluSubsRow : OpenClaim := { program := "ythmcamgbnjfklaa", sum := "4dc4b2845841c60b35d4a8c4d68cff73dc3ce63fbc9620260b20420fa84dc811", func := "bulwark/bulwarklaw12.AluSubs", spec := "aluSubs", recurses := true, apart := false }
def AluSubsSaid : Prop := aluSubsRow.holds Try.pinned (OpenSpec.ofChange aluSubsSpec)

/-- ITS FALSE NEIGHBOUR: 'it returns false'. Refute it at one input. -/
def aluSubsWrong : ChangeSpec := { name := "aluSubs", fn := fun _ => fun
  | [d] => { results := [.lit (.bool false)], args := [d] }
  | _ => none }
def AluSubsWrongFalsely : Prop := aluSubsRow.holds Try.pinned (OpenSpec.ofChange aluSubsWrong)

/-- 'bulwarklaw12.AluAnds': WHATEVER THE INPUT: true; the input reads as it did. -/
def aluAndsSpec : ChangeSpec := { name := "aluAnds", fn := fun _ => fun
  | [d] => { results := [.lit (.bool true)], args := [d] }
  | _ => none }
def aluAndsRow : OpenClaim := { program := "ythmcamgbnjfklaa", sum := "4dc4b2845841c60b35d4a8c4d68cff73dc3ce63fbc9620260b20420fa84dc811", func := "bulwark/bulwarklaw12.AluAnds", spec := "aluAnds", recurses := true, apart := false }
def AluAndsSaid : Prop := aluAndsRow.holds Try.pinned (OpenSpec.ofChange aluAndsSpec)

/-- ITS FALSE NEIGHBOUR: 'it returns false'. Refute it at one input. -/
def aluAndsWrong : ChangeSpec := { name := "aluAnds", fn := fun _ => fun
  | [d] => { results := [.lit (.bool false)], args := [d] }
  | _ => none }
def AluAndsWrongFalsely : Prop := aluAndsRow.holds Try.pinned (OpenSpec.ofChange aluAndsWrong)

/-- 'bulwarklaw12.AluOrs': WHATEVER THE INPUT: true; the input reads as it did. -/
def aluOrsSpec : ChangeSpec := { name := "aluOrs", fn := fun _ => fun
  | [d] => { results := [.lit (.bool true)], args := [d] }
  | _ => none }
def aluOrsRow : OpenClaim := { program := "ythmcamgbnjfklaa", sum := "4dc4b2845841c60b35d4a8c4d68cff73dc3ce63fbc9620260b20420fa84dc811", func := "bulwark/bulwarklaw12.AluOrs", spec := "aluOrs", recurses := true, apart := false }
def AluOrsSaid : Prop := aluOrsRow.holds Try.pinned (OpenSpec.ofChange aluOrsSpec)

/-- ITS FALSE NEIGHBOUR: 'it returns false'. Refute it at one input. -/
def aluOrsWrong : ChangeSpec := { name := "aluOrs", fn := fun _ => fun
  | [d] => { results := [.lit (.bool false)], args := [d] }
  | _ => none }
def AluOrsWrongFalsely : Prop := aluOrsRow.holds Try.pinned (OpenSpec.ofChange aluOrsWrong)

/-- 'bulwarklaw12.AluXors': WHATEVER THE INPUT: true; the input reads as it did. -/
def aluXorsSpec : ChangeSpec := { name := "aluXors", fn := fun _ => fun
  | [d] => { results := [.lit (.bool true)], args := [d] }
  | _ => none }
def aluXorsRow : OpenClaim := { program := "ythmcamgbnjfklaa", sum := "4dc4b2845841c60b35d4a8c4d68cff73dc3ce63fbc9620260b20420fa84dc811", func := "bulwark/bulwarklaw12.AluXors", spec := "aluXors", recurses := true, apart := false }
def AluXorsSaid : Prop := aluXorsRow.holds Try.pinned (OpenSpec.ofChange aluXorsSpec)

/-- ITS FALSE NEIGHBOUR: 'it returns false'. Refute it at one input. -/
def aluXorsWrong : ChangeSpec := { name := "aluXors", fn := fun _ => fun
  | [d] => { results := [.lit (.bool false)], args := [d] }
  | _ => none }
def AluXorsWrongFalsely : Prop := aluXorsRow.holds Try.pinned (OpenSpec.ofChange aluXorsWrong)

/- THE SECOND FORM. 'bulk': how many values and letters a reading holds, each counted each time it is reached (what is shared counts as often as it is met; a slice's spare places count too). A statement '..UptoSaid' is the law's where the arguments, and the package variables that the reading takes, are together of bulk at most 1048576: NARROWER than '..Said'. Prove '..Said' where nothing that the law and all that it calls make is longer than what came in: it says more and counts as full. Else prove '..UptoSaid'. A law counts once. -/
mutual
def uptoBulk {H : Type} : DataW H → Nat
  | .lit (.string bytes) => bytes.length + 1
  | .lit _ => 1
  | .nil => 1
  | .ptr d => uptoBulk d + 1
  | .slice elems spare => uptoBulkAll elems + uptoBulkAll spare + 1
  | .agg parts => uptoBulkAll parts + 1
  | .iface _ d => uptoBulk d + 1
  | .map entries => uptoBulkEntries entries + 1
  | .held _ => 1
def uptoBulkAll {H : Type} : List (DataW H) → Nat
  | [] => 0
  | d :: r => uptoBulk d + uptoBulkAll r
def uptoBulkEntries {H : Type} : List (Lit × DataW H) → Nat
  | [] => 0
  | x :: r => uptoBulkEntry x + uptoBulkEntries r
def uptoBulkEntry {H : Type} : Lit × DataW H → Nat
  | (.string bytes, d) => bytes.length + uptoBulk d + 1
  | (_, d) => uptoBulk d + 1
 end
def uptoSmall : (H : Type) → List (DataW H) → Bool := fun _ ds => decide (uptoBulkAll ds ≤ 1048576)
def OpenSpec.upto (s : _root_.Go.ChangeSpec) : _root_.Go.OpenSpec := { _root_.Go.OpenSpec.ofChange s with cond := some uptoSmall }

/-- 'bulwarklaw12.AluDoes', WHERE WHAT IT READS IS OF BULK AT MOST 1048576: true; the input reads as it did. -/
def aluDoesUptoRow : OpenClaim := { program := "ythmcamgbnjfklaa", sum := "4dc4b2845841c60b35d4a8c4d68cff73dc3ce63fbc9620260b20420fa84dc811", func := "bulwark/bulwarklaw12.AluDoes", spec := "aluDoes", apart := false, narrowed := true }
def AluDoesUptoSaid : Prop := aluDoesUptoRow.holds Try.pinned (OpenSpec.upto aluDoesSpec)

/-- 'bulwarklaw12.AluBack', WHERE WHAT IT READS IS OF BULK AT MOST 1048576: true; the input reads as it did. -/
def aluBackUptoRow : OpenClaim := { program := "ythmcamgbnjfklaa", sum := "4dc4b2845841c60b35d4a8c4d68cff73dc3ce63fbc9620260b20420fa84dc811", func := "bulwark/bulwarklaw12.AluBack", spec := "aluBack", apart := false, narrowed := true }
def AluBackUptoSaid : Prop := aluBackUptoRow.holds Try.pinned (OpenSpec.upto aluBackSpec)

/-- 'bulwarklaw12.AluMoves', WHERE WHAT IT READS IS OF BULK AT MOST 1048576: true; the input reads as it did. -/
def aluMovesUptoRow : OpenClaim := { program := "ythmcamgbnjfklaa", sum := "4dc4b2845841c60b35d4a8c4d68cff73dc3ce63fbc9620260b20420fa84dc811", func := "bulwark/bulwarklaw12.AluMoves", spec := "aluMoves", recurses := true, apart := false, narrowed := true }
def AluMovesUptoSaid : Prop := aluMovesUptoRow.holds Try.pinned (OpenSpec.upto aluMovesSpec)

/-- 'bulwarklaw12.AluAdds', WHERE WHAT IT READS IS OF BULK AT MOST 1048576: true; the input reads as it did. -/
def aluAddsUptoRow : OpenClaim := { program := "ythmcamgbnjfklaa", sum := "4dc4b2845841c60b35d4a8c4d68cff73dc3ce63fbc9620260b20420fa84dc811", func := "bulwark/bulwarklaw12.AluAdds", spec := "aluAdds", recurses := true, apart := false, narrowed := true }
def AluAddsUptoSaid : Prop := aluAddsUptoRow.holds Try.pinned (OpenSpec.upto aluAddsSpec)

/-- 'bulwarklaw12.AluSubs', WHERE WHAT IT READS IS OF BULK AT MOST 1048576: true; the input reads as it did. -/
def aluSubsUptoRow : OpenClaim := { program := "ythmcamgbnjfklaa", sum := "4dc4b2845841c60b35d4a8c4d68cff73dc3ce63fbc9620260b20420fa84dc811", func := "bulwark/bulwarklaw12.AluSubs", spec := "aluSubs", recurses := true, apart := false, narrowed := true }
def AluSubsUptoSaid : Prop := aluSubsUptoRow.holds Try.pinned (OpenSpec.upto aluSubsSpec)

/-- 'bulwarklaw12.AluAnds', WHERE WHAT IT READS IS OF BULK AT MOST 1048576: true; the input reads as it did. -/
def aluAndsUptoRow : OpenClaim := { program := "ythmcamgbnjfklaa", sum := "4dc4b2845841c60b35d4a8c4d68cff73dc3ce63fbc9620260b20420fa84dc811", func := "bulwark/bulwarklaw12.AluAnds", spec := "aluAnds", recurses := true, apart := false, narrowed := true }
def AluAndsUptoSaid : Prop := aluAndsUptoRow.holds Try.pinned (OpenSpec.upto aluAndsSpec)

/-- 'bulwarklaw12.AluOrs', WHERE WHAT IT READS IS OF BULK AT MOST 1048576: true; the input reads as it did. -/
def aluOrsUptoRow : OpenClaim := { program := "ythmcamgbnjfklaa", sum := "4dc4b2845841c60b35d4a8c4d68cff73dc3ce63fbc9620260b20420fa84dc811", func := "bulwark/bulwarklaw12.AluOrs", spec := "aluOrs", recurses := true, apart := false, narrowed := true }
def AluOrsUptoSaid : Prop := aluOrsUptoRow.holds Try.pinned (OpenSpec.upto aluOrsSpec)

/-- 'bulwarklaw12.AluXors', WHERE WHAT IT READS IS OF BULK AT MOST 1048576: true; the input reads as it did. -/
def aluXorsUptoRow : OpenClaim := { program := "ythmcamgbnjfklaa", sum := "4dc4b2845841c60b35d4a8c4d68cff73dc3ce63fbc9620260b20420fa84dc811", func := "bulwark/bulwarklaw12.AluXors", spec := "aluXors", recurses := true, apart := false, narrowed := true }
def AluXorsUptoSaid : Prop := aluXorsUptoRow.holds Try.pinned (OpenSpec.upto aluXorsSpec)

end Rows
end Go.Proofs.Ythmcamgbnjfklaa
