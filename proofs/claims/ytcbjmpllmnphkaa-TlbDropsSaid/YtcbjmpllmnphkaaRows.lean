/-
  No cell of these rows narrows 'for every input' (looked for: loops, veiled, ifaces, maps, wideKeys, modest, calm, conditions, laid).
  DERIVED. THE GIVEN ROWS OF THIS SEAT. 6 by the template 'for every input the law returns true; each argument reads behind the call as it read before'; 0 by the template 'total and deterministic' (their statements: YtcbjmpllmnphkaaTotals.lean).
  GIVEN WITH THE SEED: the statements are not yours to turn. If you find one false, say at which input.
  Laid BY PROGRAM, IN A SANDBOX (cutbox-rows.mjs): the forced cells as the released guide's own fill.sh prints them over the translation b42de68a069bb3d5… (all of the seat's roots in one cut). By AI agents, Wed Nov 11 2026. No macro, syntax, notation, axiom, sorry.
-/
import Derived.Test.YtcbjmpllmnphkaaChecked
import GoSem.Claim
import GoSem.ClaimJoined
import GoSem.ClaimMapViews
import Derived.JoinedTies
import Derived.KernelRfl
namespace Go.Proofs.Ytcbjmpllmnphkaa
/- THE CELL 'sum', in the pinned program and in every row, IS THE sha256 OF THE DUMP (.gsa) THAT YtcbjmpllmnphkaaProg.lean LOADS. Nothing in Lean hashes anything: it is a label: what it is worth is what the hold of that sum in a sandbox is worth. -/
noncomputable def Try.pinned : Pinned := { name := "ytcbjmpllmnphkaa", sum := "b42de68a069bb3d5e7193ec0118a72aa96cb74bb555816106c603592bfdad5af", checked := Try.checked }
namespace Rows
def none {H : Type} : Left H := { results := [], args := [] }

/-- 'bulwarklaw9.TlbExact': WHATEVER THE INPUT: true; the input reads as it did. -/
def tlbExactSpec : ChangeSpec := { name := "tlbExact", fn := fun _ => fun
  | [d] => { results := [.lit (.bool true)], args := [d] }
  | _ => none }
def tlbExactRow : OpenClaim := { program := "ytcbjmpllmnphkaa", sum := "b42de68a069bb3d5e7193ec0118a72aa96cb74bb555816106c603592bfdad5af", func := "bulwark/bulwarklaw9.TlbExact", spec := "tlbExact", apart := false }
def TlbExactSaid : Prop := tlbExactRow.holds Try.pinned (OpenSpec.ofChange tlbExactSpec)

/-- ITS FALSE NEIGHBOUR: 'it returns false'. Refute it at one input. -/
def tlbExactWrong : ChangeSpec := { name := "tlbExact", fn := fun _ => fun
  | [d] => { results := [.lit (.bool false)], args := [d] }
  | _ => none }
def TlbExactWrongFalsely : Prop := tlbExactRow.holds Try.pinned (OpenSpec.ofChange tlbExactWrong)

/-- 'bulwarklaw9.TlbOnly': WHATEVER THE INPUT: true; the input reads as it did. -/
def tlbOnlySpec : ChangeSpec := { name := "tlbOnly", fn := fun _ => fun
  | [d] => { results := [.lit (.bool true)], args := [d] }
  | _ => none }
def tlbOnlyRow : OpenClaim := { program := "ytcbjmpllmnphkaa", sum := "b42de68a069bb3d5e7193ec0118a72aa96cb74bb555816106c603592bfdad5af", func := "bulwark/bulwarklaw9.TlbOnly", spec := "tlbOnly", apart := false }
def TlbOnlySaid : Prop := tlbOnlyRow.holds Try.pinned (OpenSpec.ofChange tlbOnlySpec)

/-- ITS FALSE NEIGHBOUR: 'it returns false'. Refute it at one input. -/
def tlbOnlyWrong : ChangeSpec := { name := "tlbOnly", fn := fun _ => fun
  | [d] => { results := [.lit (.bool false)], args := [d] }
  | _ => none }
def TlbOnlyWrongFalsely : Prop := tlbOnlyRow.holds Try.pinned (OpenSpec.ofChange tlbOnlyWrong)

/-- 'bulwarklaw9.TlbWholes': WHATEVER THE INPUT: true; the input reads as it did. -/
def tlbWholesSpec : ChangeSpec := { name := "tlbWholes", fn := fun _ => fun
  | [d] => { results := [.lit (.bool true)], args := [d] }
  | _ => none }
def tlbWholesRow : OpenClaim := { program := "ytcbjmpllmnphkaa", sum := "b42de68a069bb3d5e7193ec0118a72aa96cb74bb555816106c603592bfdad5af", func := "bulwark/bulwarklaw9.TlbWholes", spec := "tlbWholes", apart := false }
def TlbWholesSaid : Prop := tlbWholesRow.holds Try.pinned (OpenSpec.ofChange tlbWholesSpec)

/-- ITS FALSE NEIGHBOUR: 'it returns false'. Refute it at one input. -/
def tlbWholesWrong : ChangeSpec := { name := "tlbWholes", fn := fun _ => fun
  | [d] => { results := [.lit (.bool false)], args := [d] }
  | _ => none }
def TlbWholesWrongFalsely : Prop := tlbWholesRow.holds Try.pinned (OpenSpec.ofChange tlbWholesWrong)

/-- 'bulwarklaw9.TlbMids': WHATEVER THE INPUT: true; the input reads as it did. -/
def tlbMidsSpec : ChangeSpec := { name := "tlbMids", fn := fun _ => fun
  | [d] => { results := [.lit (.bool true)], args := [d] }
  | _ => none }
def tlbMidsRow : OpenClaim := { program := "ytcbjmpllmnphkaa", sum := "b42de68a069bb3d5e7193ec0118a72aa96cb74bb555816106c603592bfdad5af", func := "bulwark/bulwarklaw9.TlbMids", spec := "tlbMids", apart := false }
def TlbMidsSaid : Prop := tlbMidsRow.holds Try.pinned (OpenSpec.ofChange tlbMidsSpec)

/-- ITS FALSE NEIGHBOUR: 'it returns false'. Refute it at one input. -/
def tlbMidsWrong : ChangeSpec := { name := "tlbMids", fn := fun _ => fun
  | [d] => { results := [.lit (.bool false)], args := [d] }
  | _ => none }
def TlbMidsWrongFalsely : Prop := tlbMidsRow.holds Try.pinned (OpenSpec.ofChange tlbMidsWrong)

/-- 'bulwarklaw9.TlbWalks': WHATEVER THE INPUT: true; the input reads as it did. -/
def tlbWalksSpec : ChangeSpec := { name := "tlbWalks", fn := fun _ => fun
  | [d] => { results := [.lit (.bool true)], args := [d] }
  | _ => none }
def tlbWalksRow : OpenClaim := { program := "ytcbjmpllmnphkaa", sum := "b42de68a069bb3d5e7193ec0118a72aa96cb74bb555816106c603592bfdad5af", func := "bulwark/bulwarklaw9.TlbWalks", spec := "tlbWalks", apart := false }
def TlbWalksSaid : Prop := tlbWalksRow.holds Try.pinned (OpenSpec.ofChange tlbWalksSpec)

/-- ITS FALSE NEIGHBOUR: 'it returns false'. Refute it at one input. -/
def tlbWalksWrong : ChangeSpec := { name := "tlbWalks", fn := fun _ => fun
  | [d] => { results := [.lit (.bool false)], args := [d] }
  | _ => none }
def TlbWalksWrongFalsely : Prop := tlbWalksRow.holds Try.pinned (OpenSpec.ofChange tlbWalksWrong)

/-- 'bulwarklaw9.TlbDrops': WHATEVER THE INPUT: true; the input reads as it did. -/
def tlbDropsSpec : ChangeSpec := { name := "tlbDrops", fn := fun _ => fun
  | [d] => { results := [.lit (.bool true)], args := [d] }
  | _ => none }
def tlbDropsRow : OpenClaim := { program := "ytcbjmpllmnphkaa", sum := "b42de68a069bb3d5e7193ec0118a72aa96cb74bb555816106c603592bfdad5af", func := "bulwark/bulwarklaw9.TlbDrops", spec := "tlbDrops", apart := false }
def TlbDropsSaid : Prop := tlbDropsRow.holds Try.pinned (OpenSpec.ofChange tlbDropsSpec)

/-- ITS FALSE NEIGHBOUR: 'it returns false'. Refute it at one input. -/
def tlbDropsWrong : ChangeSpec := { name := "tlbDrops", fn := fun _ => fun
  | [d] => { results := [.lit (.bool false)], args := [d] }
  | _ => none }
def TlbDropsWrongFalsely : Prop := tlbDropsRow.holds Try.pinned (OpenSpec.ofChange tlbDropsWrong)

/- THE SECOND FORM. 'bulk': how many values and letters a reading holds, each counted each time it is reached (what is shared counts as often as it is met; a slice's spare places count too). A statement '..UptoSaid' is the law's where the arguments, and the package variables that the reading takes, are together of bulk at most 1048576: NARROWER than '..Said'. Prove '..Said' where nothing that the law and all that it calls make is longer than what came in: it says more and counts as full. Else prove '..UptoSaid'. A law counts once. -/
mutual
def uptoBulk {H : Type} : DataW H → Nat
  | .lit (.string bytes) => bytes.length + 1
  | .lit _ => 1
  | .nil => 1
  | .ptr d => uptoBulk d + 1
  | .slice elems spare => uptoBulkAll elems + uptoBulkAll spare + 1
  | .agg parts => uptoBulkAll parts + 1
  | .iface _ d => uptoBulk d + 1
  | .map entries => uptoBulkEntries entries + 1
  | .held _ => 1
def uptoBulkAll {H : Type} : List (DataW H) → Nat
  | [] => 0
  | d :: r => uptoBulk d + uptoBulkAll r
def uptoBulkEntries {H : Type} : List (Lit × DataW H) → Nat
  | [] => 0
  | x :: r => uptoBulkEntry x + uptoBulkEntries r
def uptoBulkEntry {H : Type} : Lit × DataW H → Nat
  | (.string bytes, d) => bytes.length + uptoBulk d + 1
  | (_, d) => uptoBulk d + 1
 end
def uptoSmall : (H : Type) → List (DataW H) → Bool := fun _ ds => decide (uptoBulkAll ds ≤ 1048576)
def OpenSpec.upto (s : _root_.Go.ChangeSpec) : _root_.Go.OpenSpec := { _root_.Go.OpenSpec.ofChange s with cond := some uptoSmall }

/-- 'bulwarklaw9.TlbExact', WHERE WHAT IT READS IS OF BULK AT MOST 1048576: true; the input reads as it did. -/
def tlbExactUptoRow : OpenClaim := { program := "ytcbjmpllmnphkaa", sum := "b42de68a069bb3d5e7193ec0118a72aa96cb74bb555816106c603592bfdad5af", func := "bulwark/bulwarklaw9.TlbExact", spec := "tlbExact", apart := false, narrowed := true }
def TlbExactUptoSaid : Prop := tlbExactUptoRow.holds Try.pinned (OpenSpec.upto tlbExactSpec)

/-- 'bulwarklaw9.TlbOnly', WHERE WHAT IT READS IS OF BULK AT MOST 1048576: true; the input reads as it did. -/
def tlbOnlyUptoRow : OpenClaim := { program := "ytcbjmpllmnphkaa", sum := "b42de68a069bb3d5e7193ec0118a72aa96cb74bb555816106c603592bfdad5af", func := "bulwark/bulwarklaw9.TlbOnly", spec := "tlbOnly", apart := false, narrowed := true }
def TlbOnlyUptoSaid : Prop := tlbOnlyUptoRow.holds Try.pinned (OpenSpec.upto tlbOnlySpec)

/-- 'bulwarklaw9.TlbWholes', WHERE WHAT IT READS IS OF BULK AT MOST 1048576: true; the input reads as it did. -/
def tlbWholesUptoRow : OpenClaim := { program := "ytcbjmpllmnphkaa", sum := "b42de68a069bb3d5e7193ec0118a72aa96cb74bb555816106c603592bfdad5af", func := "bulwark/bulwarklaw9.TlbWholes", spec := "tlbWholes", apart := false, narrowed := true }
def TlbWholesUptoSaid : Prop := tlbWholesUptoRow.holds Try.pinned (OpenSpec.upto tlbWholesSpec)

/-- 'bulwarklaw9.TlbMids', WHERE WHAT IT READS IS OF BULK AT MOST 1048576: true; the input reads as it did. -/
def tlbMidsUptoRow : OpenClaim := { program := "ytcbjmpllmnphkaa", sum := "b42de68a069bb3d5e7193ec0118a72aa96cb74bb555816106c603592bfdad5af", func := "bulwark/bulwarklaw9.TlbMids", spec := "tlbMids", apart := false, narrowed := true }
def TlbMidsUptoSaid : Prop := tlbMidsUptoRow.holds Try.pinned (OpenSpec.upto tlbMidsSpec)

/-- 'bulwarklaw9.TlbWalks', WHERE WHAT IT READS IS OF BULK AT MOST 1048576: true; the input reads as it did. -/
def tlbWalksUptoRow : OpenClaim := { program := "ytcbjmpllmnphkaa", sum := "b42de68a069bb3d5e7193ec0118a72aa96cb74bb555816106c603592bfdad5af", func := "bulwark/bulwarklaw9.TlbWalks", spec := "tlbWalks", apart := false, narrowed := true }
def TlbWalksUptoSaid : Prop := tlbWalksUptoRow.holds Try.pinned (OpenSpec.upto tlbWalksSpec)

/-- 'bulwarklaw9.TlbDrops', WHERE WHAT IT READS IS OF BULK AT MOST 1048576: true; the input reads as it did. -/
def tlbDropsUptoRow : OpenClaim := { program := "ytcbjmpllmnphkaa", sum := "b42de68a069bb3d5e7193ec0118a72aa96cb74bb555816106c603592bfdad5af", func := "bulwark/bulwarklaw9.TlbDrops", spec := "tlbDrops", apart := false, narrowed := true }
def TlbDropsUptoSaid : Prop := tlbDropsUptoRow.holds Try.pinned (OpenSpec.upto tlbDropsSpec)

end Rows
end Go.Proofs.Ytcbjmpllmnphkaa
