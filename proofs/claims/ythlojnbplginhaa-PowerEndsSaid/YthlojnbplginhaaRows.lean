/-
  No cell of these rows narrows 'for every input' (looked for: loops, veiled, ifaces, maps, wideKeys, modest, calm, conditions, laid).
  DERIVED. THE GIVEN ROWS OF THIS SEAT. 3 by the template 'for every input the law returns true; each argument reads behind the call as it read before'; 0 by the template 'total and deterministic' (their statements: YthlojnbplginhaaTotals.lean).
  GIVEN WITH THE SEED: the statements are not yours to turn. If you find one false, say at which input.
  Laid BY PROGRAM, IN A SANDBOX (cutbox-rows.mjs): the forced cells as the released guide's own fill.sh prints them over the translation df39083e4ea9ea5c… (all of the seat's roots in one cut). By AI agents, Wed Nov 11 2026. No macro, syntax, notation, axiom, sorry.
-/
import Derived.Test.YthlojnbplginhaaChecked
import GoSem.Claim
import GoSem.ClaimJoined
import GoSem.ClaimMapViews
import Derived.JoinedTies
import Derived.KernelRfl
namespace Go.Proofs.Ythlojnbplginhaa
/- THE CELL 'sum', in the pinned program and in every row, IS THE sha256 OF THE DUMP (.gsa) THAT YthlojnbplginhaaProg.lean LOADS. Nothing in Lean hashes anything: it is a label: what it is worth is what the hold of that sum in a sandbox is worth. -/
noncomputable def Try.pinned : Pinned := { name := "ythlojnbplginhaa", sum := "df39083e4ea9ea5cd1325a80d8b22091d53bc0528b8cebed6c6cc1aaef8415c5", checked := Try.checked }
namespace Rows
def none {H : Type} : Left H := { results := [], args := [] }

/-- 'dogwatchlaw04.PowerTears': WHATEVER THE INPUT: true; the input reads as it did. -/
def powerTearsSpec : ChangeSpec := { name := "powerTears", fn := fun _ => fun
  | [d1, d2, d3] => { results := [.lit (.bool true)], args := [d1, d2, d3] }
  | _ => none }
def powerTearsRow : OpenClaim := { program := "ythlojnbplginhaa", sum := "df39083e4ea9ea5cd1325a80d8b22091d53bc0528b8cebed6c6cc1aaef8415c5", func := "dogwatch/dogwatchlaw04.PowerTears", spec := "powerTears", inPlace := ["internal/abi.NoEscape", "internal/bytealg.MakeNoZero"], unfollowed := true, recurses := true, apart := false }
def PowerTearsSaid : Prop := powerTearsRow.holds Try.pinned (OpenSpec.ofChange powerTearsSpec)

/-- ITS FALSE NEIGHBOUR: 'it returns false'. Refute it at one input. -/
def powerTearsWrong : ChangeSpec := { name := "powerTears", fn := fun _ => fun
  | [d1, d2, d3] => { results := [.lit (.bool false)], args := [d1, d2, d3] }
  | _ => none }
def PowerTearsWrongFalsely : Prop := powerTearsRow.holds Try.pinned (OpenSpec.ofChange powerTearsWrong)

/-- 'dogwatchlaw04.PowerAgain': WHATEVER THE INPUT: true; the input reads as it did. -/
def powerAgainSpec : ChangeSpec := { name := "powerAgain", fn := fun _ => fun
  | [d1, d2, d3] => { results := [.lit (.bool true)], args := [d1, d2, d3] }
  | _ => none }
def powerAgainRow : OpenClaim := { program := "ythlojnbplginhaa", sum := "df39083e4ea9ea5cd1325a80d8b22091d53bc0528b8cebed6c6cc1aaef8415c5", func := "dogwatch/dogwatchlaw04.PowerAgain", spec := "powerAgain", inPlace := ["internal/abi.NoEscape", "internal/bytealg.MakeNoZero"], unfollowed := true, recurses := true, apart := false }
def PowerAgainSaid : Prop := powerAgainRow.holds Try.pinned (OpenSpec.ofChange powerAgainSpec)

/-- ITS FALSE NEIGHBOUR: 'it returns false'. Refute it at one input. -/
def powerAgainWrong : ChangeSpec := { name := "powerAgain", fn := fun _ => fun
  | [d1, d2, d3] => { results := [.lit (.bool false)], args := [d1, d2, d3] }
  | _ => none }
def PowerAgainWrongFalsely : Prop := powerAgainRow.holds Try.pinned (OpenSpec.ofChange powerAgainWrong)

/-- 'dogwatchlaw04.PowerEnds': WHATEVER THE INPUT: true; the input reads as it did. -/
def powerEndsSpec : ChangeSpec := { name := "powerEnds", fn := fun _ => fun
  | [d1, d2, d3, d4] => { results := [.lit (.bool true)], args := [d1, d2, d3, d4] }
  | _ => none }
def powerEndsRow : OpenClaim := { program := "ythlojnbplginhaa", sum := "df39083e4ea9ea5cd1325a80d8b22091d53bc0528b8cebed6c6cc1aaef8415c5", func := "dogwatch/dogwatchlaw04.PowerEnds", spec := "powerEnds", inPlace := ["internal/abi.NoEscape", "internal/bytealg.MakeNoZero"], unfollowed := true, recurses := true, apart := false }
def PowerEndsSaid : Prop := powerEndsRow.holds Try.pinned (OpenSpec.ofChange powerEndsSpec)

/-- ITS FALSE NEIGHBOUR: 'it returns false'. Refute it at one input. -/
def powerEndsWrong : ChangeSpec := { name := "powerEnds", fn := fun _ => fun
  | [d1, d2, d3, d4] => { results := [.lit (.bool false)], args := [d1, d2, d3, d4] }
  | _ => none }
def PowerEndsWrongFalsely : Prop := powerEndsRow.holds Try.pinned (OpenSpec.ofChange powerEndsWrong)

/- THE SECOND FORM. 'bulk': how many values and letters a reading holds, each counted each time it is reached (what is shared counts as often as it is met; a slice's spare places count too). A statement '..UptoSaid' is the law's where the arguments, and the package variables that the reading takes, are together of bulk at most 1048576: NARROWER than '..Said'. Prove '..Said' where nothing that the law and all that it calls make is longer than what came in: it says more and counts as full. Else prove '..UptoSaid'. A law counts once. -/
mutual
def uptoBulk {H : Type} : DataW H → Nat
  | .lit (.string bytes) => bytes.length + 1
  | .lit _ => 1
  | .nil => 1
  | .ptr d => uptoBulk d + 1
  | .slice elems spare => uptoBulkAll elems + uptoBulkAll spare + 1
  | .agg parts => uptoBulkAll parts + 1
  | .iface _ d => uptoBulk d + 1
  | .map entries => uptoBulkEntries entries + 1
  | .held _ => 1
def uptoBulkAll {H : Type} : List (DataW H) → Nat
  | [] => 0
  | d :: r => uptoBulk d + uptoBulkAll r
def uptoBulkEntries {H : Type} : List (Lit × DataW H) → Nat
  | [] => 0
  | x :: r => uptoBulkEntry x + uptoBulkEntries r
def uptoBulkEntry {H : Type} : Lit × DataW H → Nat
  | (.string bytes, d) => bytes.length + uptoBulk d + 1
  | (_, d) => uptoBulk d + 1
 end
def uptoSmall : (H : Type) → List (DataW H) → Bool := fun _ ds => decide (uptoBulkAll ds ≤ 1048576)
def OpenSpec.upto (s : _root_.Go.ChangeSpec) : _root_.Go.OpenSpec := { _root_.Go.OpenSpec.ofChange s with cond := some uptoSmall }

/-- 'dogwatchlaw04.PowerTears', WHERE WHAT IT READS IS OF BULK AT MOST 1048576: true; the input reads as it did. -/
def powerTearsUptoRow : OpenClaim := { program := "ythlojnbplginhaa", sum := "df39083e4ea9ea5cd1325a80d8b22091d53bc0528b8cebed6c6cc1aaef8415c5", func := "dogwatch/dogwatchlaw04.PowerTears", spec := "powerTears", inPlace := ["internal/abi.NoEscape", "internal/bytealg.MakeNoZero"], unfollowed := true, recurses := true, apart := false, narrowed := true }
def PowerTearsUptoSaid : Prop := powerTearsUptoRow.holds Try.pinned (OpenSpec.upto powerTearsSpec)

/-- 'dogwatchlaw04.PowerAgain', WHERE WHAT IT READS IS OF BULK AT MOST 1048576: true; the input reads as it did. -/
def powerAgainUptoRow : OpenClaim := { program := "ythlojnbplginhaa", sum := "df39083e4ea9ea5cd1325a80d8b22091d53bc0528b8cebed6c6cc1aaef8415c5", func := "dogwatch/dogwatchlaw04.PowerAgain", spec := "powerAgain", inPlace := ["internal/abi.NoEscape", "internal/bytealg.MakeNoZero"], unfollowed := true, recurses := true, apart := false, narrowed := true }
def PowerAgainUptoSaid : Prop := powerAgainUptoRow.holds Try.pinned (OpenSpec.upto powerAgainSpec)

/-- 'dogwatchlaw04.PowerEnds', WHERE WHAT IT READS IS OF BULK AT MOST 1048576: true; the input reads as it did. -/
def powerEndsUptoRow : OpenClaim := { program := "ythlojnbplginhaa", sum := "df39083e4ea9ea5cd1325a80d8b22091d53bc0528b8cebed6c6cc1aaef8415c5", func := "dogwatch/dogwatchlaw04.PowerEnds", spec := "powerEnds", inPlace := ["internal/abi.NoEscape", "internal/bytealg.MakeNoZero"], unfollowed := true, recurses := true, apart := false, narrowed := true }
def PowerEndsUptoSaid : Prop := powerEndsUptoRow.holds Try.pinned (OpenSpec.upto powerEndsSpec)

end Rows
end Go.Proofs.Ythlojnbplginhaa
