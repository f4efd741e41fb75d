/-
  No cell of these rows narrows 'for every input' (looked for: loops, veiled, ifaces, maps, wideKeys, modest, calm, conditions, laid).
  DERIVED. THE GIVEN ROWS OF THIS SEAT. 10 by the template 'for every input the law returns true; each argument reads behind the call as it read before'; 0 by the template 'total and deterministic' (their statements: YtjohnpbfdpmajaaTotals.lean).
  GIVEN WITH THE SEED: the statements are not yours to turn. If you find one false, say at which input.
  Laid BY PROGRAM, IN A SANDBOX (cutbox-rows.mjs): the forced cells as the released guide's own fill.sh prints them over the translation 8bec76f46f3faf00… (all of the seat's roots in one cut). By AI agents, Wed Nov 11 2026. No macro, syntax, notation, axiom, sorry.
-/
import Derived.Test.YtjohnpbfdpmajaaChecked
import GoSem.Claim
import GoSem.ClaimJoined
import GoSem.ClaimMapViews
import Derived.JoinedTies
import Derived.KernelRfl
namespace Go.Proofs.Ytjohnpbfdpmajaa
/- THE CELL 'sum', in the pinned program and in every row, IS THE sha256 OF THE DUMP (.gsa) THAT YtjohnpbfdpmajaaProg.lean LOADS. Nothing in Lean hashes anything: it is a label: what it is worth is what the hold of that sum in a sandbox is worth. -/
noncomputable def Try.pinned : Pinned := { name := "ytjohnpbfdpmajaa", sum := "8bec76f46f3faf004f80f531d321aaba1ce8f6b7ed577a53211613bc563962e3", checked := Try.checked }
namespace Rows
def none {H : Type} : Left H := { results := [], args := [] }

/-- 'bulwarklaw10.InvalTakes': WHATEVER THE INPUT: true; the input reads as it did. -/
def invalTakesSpec : ChangeSpec := { name := "invalTakes", fn := fun _ => fun
  | [d] => { results := [.lit (.bool true)], args := [d] }
  | _ => none }
def invalTakesRow : OpenClaim := { program := "ytjohnpbfdpmajaa", sum := "8bec76f46f3faf004f80f531d321aaba1ce8f6b7ed577a53211613bc563962e3", func := "bulwark/bulwarklaw10.InvalTakes", spec := "invalTakes", apart := false }
def InvalTakesSaid : Prop := invalTakesRow.holds Try.pinned (OpenSpec.ofChange invalTakesSpec)

/-- ITS FALSE NEIGHBOUR: 'it returns false'. Refute it at one input. -/
def invalTakesWrong : ChangeSpec := { name := "invalTakes", fn := fun _ => fun
  | [d] => { results := [.lit (.bool false)], args := [d] }
  | _ => none }
def InvalTakesWrongFalsely : Prop := invalTakesRow.holds Try.pinned (OpenSpec.ofChange invalTakesWrong)

/-- 'bulwarklaw10.InvalApplies': WHATEVER THE INPUT: true; the input reads as it did. -/
def invalAppliesSpec : ChangeSpec := { name := "invalApplies", fn := fun _ => fun
  | [d] => { results := [.lit (.bool true)], args := [d] }
  | _ => none }
def invalAppliesRow : OpenClaim := { program := "ytjohnpbfdpmajaa", sum := "8bec76f46f3faf004f80f531d321aaba1ce8f6b7ed577a53211613bc563962e3", func := "bulwark/bulwarklaw10.InvalApplies", spec := "invalApplies", unfollowed := true, recurses := true, apart := false }
def InvalAppliesSaid : Prop := invalAppliesRow.holds Try.pinned (OpenSpec.ofChange invalAppliesSpec)

/-- ITS FALSE NEIGHBOUR: 'it returns false'. Refute it at one input. -/
def invalAppliesWrong : ChangeSpec := { name := "invalApplies", fn := fun _ => fun
  | [d] => { results := [.lit (.bool false)], args := [d] }
  | _ => none }
def InvalAppliesWrongFalsely : Prop := invalAppliesRow.holds Try.pinned (OpenSpec.ofChange invalAppliesWrong)

/-- 'bulwarklaw10.InvalWaits': WHATEVER THE INPUT: true; the input reads as it did. -/
def invalWaitsSpec : ChangeSpec := { name := "invalWaits", fn := fun _ => fun
  | [d] => { results := [.lit (.bool true)], args := [d] }
  | _ => none }
def invalWaitsRow : OpenClaim := { program := "ytjohnpbfdpmajaa", sum := "8bec76f46f3faf004f80f531d321aaba1ce8f6b7ed577a53211613bc563962e3", func := "bulwark/bulwarklaw10.InvalWaits", spec := "invalWaits", unfollowed := true, recurses := true, apart := false }
def InvalWaitsSaid : Prop := invalWaitsRow.holds Try.pinned (OpenSpec.ofChange invalWaitsSpec)

/-- ITS FALSE NEIGHBOUR: 'it returns false'. Refute it at one input. -/
def invalWaitsWrong : ChangeSpec := { name := "invalWaits", fn := fun _ => fun
  | [d] => { results := [.lit (.bool false)], args := [d] }
  | _ => none }
def InvalWaitsWrongFalsely : Prop := invalWaitsRow.holds Try.pinned (OpenSpec.ofChange invalWaitsWrong)

/-- 'bulwarklaw10.InvalKinds': WHATEVER THE INPUT: true; the input reads as it did. -/
def invalKindsSpec : ChangeSpec := { name := "invalKinds", fn := fun _ => fun
  | [d] => { results := [.lit (.bool true)], args := [d] }
  | _ => none }
def invalKindsRow : OpenClaim := { program := "ytjohnpbfdpmajaa", sum := "8bec76f46f3faf004f80f531d321aaba1ce8f6b7ed577a53211613bc563962e3", func := "bulwark/bulwarklaw10.InvalKinds", spec := "invalKinds", apart := false }
def InvalKindsSaid : Prop := invalKindsRow.holds Try.pinned (OpenSpec.ofChange invalKindsSpec)

/-- ITS FALSE NEIGHBOUR: 'it returns false'. Refute it at one input. -/
def invalKindsWrong : ChangeSpec := { name := "invalKinds", fn := fun _ => fun
  | [d] => { results := [.lit (.bool false)], args := [d] }
  | _ => none }
def InvalKindsWrongFalsely : Prop := invalKindsRow.holds Try.pinned (OpenSpec.ofChange invalKindsWrong)

/-- 'bulwarklaw10.InvalAll': WHATEVER THE INPUT: true; the input reads as it did. -/
def invalAllSpec : ChangeSpec := { name := "invalAll", fn := fun _ => fun
  | [d] => { results := [.lit (.bool true)], args := [d] }
  | _ => none }
def invalAllRow : OpenClaim := { program := "ytjohnpbfdpmajaa", sum := "8bec76f46f3faf004f80f531d321aaba1ce8f6b7ed577a53211613bc563962e3", func := "bulwark/bulwarklaw10.InvalAll", spec := "invalAll", unfollowed := true, recurses := true, apart := false }
def InvalAllSaid : Prop := invalAllRow.holds Try.pinned (OpenSpec.ofChange invalAllSpec)

/-- ITS FALSE NEIGHBOUR: 'it returns false'. Refute it at one input. -/
def invalAllWrong : ChangeSpec := { name := "invalAll", fn := fun _ => fun
  | [d] => { results := [.lit (.bool false)], args := [d] }
  | _ => none }
def InvalAllWrongFalsely : Prop := invalAllRow.holds Try.pinned (OpenSpec.ofChange invalAllWrong)

/-- 'bulwarklaw10.InvalVMs': WHATEVER THE INPUT: true; the input reads as it did. -/
def invalVMsSpec : ChangeSpec := { name := "invalVMs", fn := fun _ => fun
  | [d] => { results := [.lit (.bool true)], args := [d] }
  | _ => none }
def invalVMsRow : OpenClaim := { program := "ytjohnpbfdpmajaa", sum := "8bec76f46f3faf004f80f531d321aaba1ce8f6b7ed577a53211613bc563962e3", func := "bulwark/bulwarklaw10.InvalVMs", spec := "invalVMs", unfollowed := true, recurses := true, apart := false }
def InvalVMsSaid : Prop := invalVMsRow.holds Try.pinned (OpenSpec.ofChange invalVMsSpec)

/-- ITS FALSE NEIGHBOUR: 'it returns false'. Refute it at one input. -/
def invalVMsWrong : ChangeSpec := { name := "invalVMs", fn := fun _ => fun
  | [d] => { results := [.lit (.bool false)], args := [d] }
  | _ => none }
def InvalVMsWrongFalsely : Prop := invalVMsRow.holds Try.pinned (OpenSpec.ofChange invalVMsWrong)

/-- 'bulwarklaw10.InvalStages': WHATEVER THE INPUT: true; the input reads as it did. -/
def invalStagesSpec : ChangeSpec := { name := "invalStages", fn := fun _ => fun
  | [d] => { results := [.lit (.bool true)], args := [d] }
  | _ => none }
def invalStagesRow : OpenClaim := { program := "ytjohnpbfdpmajaa", sum := "8bec76f46f3faf004f80f531d321aaba1ce8f6b7ed577a53211613bc563962e3", func := "bulwark/bulwarklaw10.InvalStages", spec := "invalStages", unfollowed := true, recurses := true, apart := false }
def InvalStagesSaid : Prop := invalStagesRow.holds Try.pinned (OpenSpec.ofChange invalStagesSpec)

/-- ITS FALSE NEIGHBOUR: 'it returns false'. Refute it at one input. -/
def invalStagesWrong : ChangeSpec := { name := "invalStages", fn := fun _ => fun
  | [d] => { results := [.lit (.bool false)], args := [d] }
  | _ => none }
def InvalStagesWrongFalsely : Prop := invalStagesRow.holds Try.pinned (OpenSpec.ofChange invalStagesWrong)

/-- 'bulwarklaw10.InvalASIDs': WHATEVER THE INPUT: true; the input reads as it did. -/
def invalASIDsSpec : ChangeSpec := { name := "invalASIDs", fn := fun _ => fun
  | [d] => { results := [.lit (.bool true)], args := [d] }
  | _ => none }
def invalASIDsRow : OpenClaim := { program := "ytjohnpbfdpmajaa", sum := "8bec76f46f3faf004f80f531d321aaba1ce8f6b7ed577a53211613bc563962e3", func := "bulwark/bulwarklaw10.InvalASIDs", spec := "invalASIDs", unfollowed := true, recurses := true, apart := false }
def InvalASIDsSaid : Prop := invalASIDsRow.holds Try.pinned (OpenSpec.ofChange invalASIDsSpec)

/-- ITS FALSE NEIGHBOUR: 'it returns false'. Refute it at one input. -/
def invalASIDsWrong : ChangeSpec := { name := "invalASIDs", fn := fun _ => fun
  | [d] => { results := [.lit (.bool false)], args := [d] }
  | _ => none }
def InvalASIDsWrongFalsely : Prop := invalASIDsRow.holds Try.pinned (OpenSpec.ofChange invalASIDsWrong)

/-- 'bulwarklaw10.InvalPages': WHATEVER THE INPUT: true; the input reads as it did. -/
def invalPagesSpec : ChangeSpec := { name := "invalPages", fn := fun _ => fun
  | [d] => { results := [.lit (.bool true)], args := [d] }
  | _ => none }
def invalPagesRow : OpenClaim := { program := "ytjohnpbfdpmajaa", sum := "8bec76f46f3faf004f80f531d321aaba1ce8f6b7ed577a53211613bc563962e3", func := "bulwark/bulwarklaw10.InvalPages", spec := "invalPages", unfollowed := true, recurses := true, apart := false }
def InvalPagesSaid : Prop := invalPagesRow.holds Try.pinned (OpenSpec.ofChange invalPagesSpec)

/-- ITS FALSE NEIGHBOUR: 'it returns false'. Refute it at one input. -/
def invalPagesWrong : ChangeSpec := { name := "invalPages", fn := fun _ => fun
  | [d] => { results := [.lit (.bool false)], args := [d] }
  | _ => none }
def InvalPagesWrongFalsely : Prop := invalPagesRow.holds Try.pinned (OpenSpec.ofChange invalPagesWrong)

/-- 'bulwarklaw10.InvalMids': WHATEVER THE INPUT: true; the input reads as it did. -/
def invalMidsSpec : ChangeSpec := { name := "invalMids", fn := fun _ => fun
  | [d] => { results := [.lit (.bool true)], args := [d] }
  | _ => none }
def invalMidsRow : OpenClaim := { program := "ytjohnpbfdpmajaa", sum := "8bec76f46f3faf004f80f531d321aaba1ce8f6b7ed577a53211613bc563962e3", func := "bulwark/bulwarklaw10.InvalMids", spec := "invalMids", unfollowed := true, recurses := true, apart := false }
def InvalMidsSaid : Prop := invalMidsRow.holds Try.pinned (OpenSpec.ofChange invalMidsSpec)

/-- ITS FALSE NEIGHBOUR: 'it returns false'. Refute it at one input. -/
def invalMidsWrong : ChangeSpec := { name := "invalMids", fn := fun _ => fun
  | [d] => { results := [.lit (.bool false)], args := [d] }
  | _ => none }
def InvalMidsWrongFalsely : Prop := invalMidsRow.holds Try.pinned (OpenSpec.ofChange invalMidsWrong)

/- THE SECOND FORM. 'bulk': how many values and letters a reading holds, each counted each time it is reached (what is shared counts as often as it is met; a slice's spare places count too). A statement '..UptoSaid' is the law's where the arguments, and the package variables that the reading takes, are together of bulk at most 1048576: NARROWER than '..Said'. Prove '..Said' where nothing that the law and all that it calls make is longer than what came in: it says more and counts as full. Else prove '..UptoSaid'. A law counts once. -/
mutual
def uptoBulk {H : Type} : DataW H → Nat
  | .lit (.string bytes) => bytes.length + 1
  | .lit _ => 1
  | .nil => 1
  | .ptr d => uptoBulk d + 1
  | .slice elems spare => uptoBulkAll elems + uptoBulkAll spare + 1
  | .agg parts => uptoBulkAll parts + 1
  | .iface _ d => uptoBulk d + 1
  | .map entries => uptoBulkEntries entries + 1
  | .held _ => 1
def uptoBulkAll {H : Type} : List (DataW H) → Nat
  | [] => 0
  | d :: r => uptoBulk d + uptoBulkAll r
def uptoBulkEntries {H : Type} : List (Lit × DataW H) → Nat
  | [] => 0
  | x :: r => uptoBulkEntry x + uptoBulkEntries r
def uptoBulkEntry {H : Type} : Lit × DataW H → Nat
  | (.string bytes, d) => bytes.length + uptoBulk d + 1
  | (_, d) => uptoBulk d + 1
 end
def uptoSmall : (H : Type) → List (DataW H) → Bool := fun _ ds => decide (uptoBulkAll ds ≤ 1048576)
def OpenSpec.upto (s : _root_.Go.ChangeSpec) : _root_.Go.OpenSpec := { _root_.Go.OpenSpec.ofChange s with cond := some uptoSmall }

/-- 'bulwarklaw10.InvalTakes', WHERE WHAT IT READS IS OF BULK AT MOST 1048576: true; the input reads as it did. -/
def invalTakesUptoRow : OpenClaim := { program := "ytjohnpbfdpmajaa", sum := "8bec76f46f3faf004f80f531d321aaba1ce8f6b7ed577a53211613bc563962e3", func := "bulwark/bulwarklaw10.InvalTakes", spec := "invalTakes", apart := false, narrowed := true }
def InvalTakesUptoSaid : Prop := invalTakesUptoRow.holds Try.pinned (OpenSpec.upto invalTakesSpec)

/-- 'bulwarklaw10.InvalApplies', WHERE WHAT IT READS IS OF BULK AT MOST 1048576: true; the input reads as it did. -/
def invalAppliesUptoRow : OpenClaim := { program := "ytjohnpbfdpmajaa", sum := "8bec76f46f3faf004f80f531d321aaba1ce8f6b7ed577a53211613bc563962e3", func := "bulwark/bulwarklaw10.InvalApplies", spec := "invalApplies", unfollowed := true, recurses := true, apart := false, narrowed := true }
def InvalAppliesUptoSaid : Prop := invalAppliesUptoRow.holds Try.pinned (OpenSpec.upto invalAppliesSpec)

/-- 'bulwarklaw10.InvalWaits', WHERE WHAT IT READS IS OF BULK AT MOST 1048576: true; the input reads as it did. -/
def invalWaitsUptoRow : OpenClaim := { program := "ytjohnpbfdpmajaa", sum := "8bec76f46f3faf004f80f531d321aaba1ce8f6b7ed577a53211613bc563962e3", func := "bulwark/bulwarklaw10.InvalWaits", spec := "invalWaits", unfollowed := true, recurses := true, apart := false, narrowed := true }
def InvalWaitsUptoSaid : Prop := invalWaitsUptoRow.holds Try.pinned (OpenSpec.upto invalWaitsSpec)

/-- 'bulwarklaw10.InvalKinds', WHERE WHAT IT READS IS OF BULK AT MOST 1048576: true; the input reads as it did. -/
def invalKindsUptoRow : OpenClaim := { program := "ytjohnpbfdpmajaa", sum := "8bec76f46f3faf004f80f531d321aaba1ce8f6b7ed577a53211613bc563962e3", func := "bulwark/bulwarklaw10.InvalKinds", spec := "invalKinds", apart := false, narrowed := true }
def InvalKindsUptoSaid : Prop := invalKindsUptoRow.holds Try.pinned (OpenSpec.upto invalKindsSpec)

/-- 'bulwarklaw10.InvalAll', WHERE WHAT IT READS IS OF BULK AT MOST 1048576: true; the input reads as it did. -/
def invalAllUptoRow : OpenClaim := { program := "ytjohnpbfdpmajaa", sum := "8bec76f46f3faf004f80f531d321aaba1ce8f6b7ed577a53211613bc563962e3", func := "bulwark/bulwarklaw10.InvalAll", spec := "invalAll", unfollowed := true, recurses := true, apart := false, narrowed := true }
def InvalAllUptoSaid : Prop := invalAllUptoRow.holds Try.pinned (OpenSpec.upto invalAllSpec)

/-- 'bulwarklaw10.InvalVMs', WHERE WHAT IT READS IS OF BULK AT MOST 1048576: true; the input reads as it did. -/
def invalVMsUptoRow : OpenClaim := { program := "ytjohnpbfdpmajaa", sum := "8bec76f46f3faf004f80f531d321aaba1ce8f6b7ed577a53211613bc563962e3", func := "bulwark/bulwarklaw10.InvalVMs", spec := "invalVMs", unfollowed := true, recurses := true, apart := false, narrowed := true }
def InvalVMsUptoSaid : Prop := invalVMsUptoRow.holds Try.pinned (OpenSpec.upto invalVMsSpec)

/-- 'bulwarklaw10.InvalStages', WHERE WHAT IT READS IS OF BULK AT MOST 1048576: true; the input reads as it did. -/
def invalStagesUptoRow : OpenClaim := { program := "ytjohnpbfdpmajaa", sum := "8bec76f46f3faf004f80f531d321aaba1ce8f6b7ed577a53211613bc563962e3", func := "bulwark/bulwarklaw10.InvalStages", spec := "invalStages", unfollowed := true, recurses := true, apart := false, narrowed := true }
def InvalStagesUptoSaid : Prop := invalStagesUptoRow.holds Try.pinned (OpenSpec.upto invalStagesSpec)

/-- 'bulwarklaw10.InvalASIDs', WHERE WHAT IT READS IS OF BULK AT MOST 1048576: true; the input reads as it did. -/
def invalASIDsUptoRow : OpenClaim := { program := "ytjohnpbfdpmajaa", sum := "8bec76f46f3faf004f80f531d321aaba1ce8f6b7ed577a53211613bc563962e3", func := "bulwark/bulwarklaw10.InvalASIDs", spec := "invalASIDs", unfollowed := true, recurses := true, apart := false, narrowed := true }
def InvalASIDsUptoSaid : Prop := invalASIDsUptoRow.holds Try.pinned (OpenSpec.upto invalASIDsSpec)

/-- 'bulwarklaw10.InvalPages', WHERE WHAT IT READS IS OF BULK AT MOST 1048576: true; the input reads as it did. -/
def invalPagesUptoRow : OpenClaim := { program := "ytjohnpbfdpmajaa", sum := "8bec76f46f3faf004f80f531d321aaba1ce8f6b7ed577a53211613bc563962e3", func := "bulwark/bulwarklaw10.InvalPages", spec := "invalPages", unfollowed := true, recurses := true, apart := false, narrowed := true }
def InvalPagesUptoSaid : Prop := invalPagesUptoRow.holds Try.pinned (OpenSpec.upto invalPagesSpec)

/-- 'bulwarklaw10.InvalMids', WHERE WHAT IT READS IS OF BULK AT MOST 1048576: true; the input reads as it did. -/
def invalMidsUptoRow : OpenClaim := { program := "ytjohnpbfdpmajaa", sum := "8bec76f46f3faf004f80f531d321aaba1ce8f6b7ed577a53211613bc563962e3", func := "bulwark/bulwarklaw10.InvalMids", spec := "invalMids", unfollowed := true, recurses := true, apart := false, narrowed := true }
def InvalMidsUptoSaid : Prop := invalMidsUptoRow.holds Try.pinned (OpenSpec.upto invalMidsSpec)

end Rows
end Go.Proofs.Ytjohnpbfdpmajaa
