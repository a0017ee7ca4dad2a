/-
  No cell of these rows narrows 'for every input' (looked for: loops, veiled, ifaces, maps, wideKeys, modest, calm, conditions, laid).
  DERIVED. THE GIVEN ROWS OF THIS SEAT. 4 by the template 'for every input the law returns true; each argument reads behind the call as it read before'; 0 by the template 'total and deterministic' (their statements: YtejhbamlnkhfcaaTotals.lean).
  GIVEN WITH THE SEED: the statements are not yours to turn. If you find one false, say at which input.
  Laid BY PROGRAM, IN A SANDBOX (cutbox-rows.mjs): the forced cells as the released guide's own fill.sh prints them over the translation a7009ba6fc25e160… (all of the seat's roots in one cut). By AI agents, Wed Nov 11 2026. No macro, syntax, notation, axiom, sorry.
-/
import Derived.Test.YtejhbamlnkhfcaaChecked
import GoSem.Claim
import GoSem.ClaimJoined
import GoSem.ClaimMapViews
import Derived.JoinedTies
import Derived.KernelRfl
namespace Go.Proofs.Ytejhbamlnkhfcaa
/- THE CELL 'sum', in the pinned program and in every row, IS THE sha256 OF THE DUMP (.gsa) THAT YtejhbamlnkhfcaaProg.lean LOADS. Nothing in Lean hashes anything: it is a label: what it is worth is what the hold of that sum in a sandbox is worth. -/
noncomputable def Try.pinned : Pinned := { name := "ytejhbamlnkhfcaa", sum := "a7009ba6fc25e1605a5f8491cd00714981dad907383edc39f78fe34b2e13669f", checked := Try.checked }
namespace Rows
def none {H : Type} : Left H := { results := [], args := [] }

/-- 'dogwatchlaw10.PickGreater': WHATEVER THE INPUT: true; the input reads as it did. -/
def pickGreaterSpec : ChangeSpec := { name := "pickGreater", fn := fun _ => fun
  | [d] => { results := [.lit (.bool true)], args := [d] }
  | _ => none }
def pickGreaterRow : OpenClaim := { program := "ytejhbamlnkhfcaa", sum := "a7009ba6fc25e1605a5f8491cd00714981dad907383edc39f78fe34b2e13669f", func := "dogwatch/dogwatchlaw10.PickGreater", spec := "pickGreater", inPlace := ["internal/abi.NoEscape", "internal/bytealg.MakeNoZero"], unfollowed := true, recurses := true, apart := false }
def PickGreaterSaid : Prop := pickGreaterRow.holds Try.pinned (OpenSpec.ofChange pickGreaterSpec)

/-- ITS FALSE NEIGHBOUR: 'it returns false'. Refute it at one input. -/
def pickGreaterWrong : ChangeSpec := { name := "pickGreater", fn := fun _ => fun
  | [d] => { results := [.lit (.bool false)], args := [d] }
  | _ => none }
def PickGreaterWrongFalsely : Prop := pickGreaterRow.holds Try.pinned (OpenSpec.ofChange pickGreaterWrong)

/-- 'dogwatchlaw10.PickOther': WHATEVER THE INPUT: true; the input reads as it did. -/
def pickOtherSpec : ChangeSpec := { name := "pickOther", fn := fun _ => fun
  | [d1, d2] => { results := [.lit (.bool true)], args := [d1, d2] }
  | _ => none }
def pickOtherRow : OpenClaim := { program := "ytejhbamlnkhfcaa", sum := "a7009ba6fc25e1605a5f8491cd00714981dad907383edc39f78fe34b2e13669f", func := "dogwatch/dogwatchlaw10.PickOther", spec := "pickOther", inPlace := ["internal/abi.NoEscape", "internal/bytealg.MakeNoZero"], unfollowed := true, recurses := true, apart := false }
def PickOtherSaid : Prop := pickOtherRow.holds Try.pinned (OpenSpec.ofChange pickOtherSpec)

/-- ITS FALSE NEIGHBOUR: 'it returns false'. Refute it at one input. -/
def pickOtherWrong : ChangeSpec := { name := "pickOther", fn := fun _ => fun
  | [d1, d2] => { results := [.lit (.bool false)], args := [d1, d2] }
  | _ => none }
def PickOtherWrongFalsely : Prop := pickOtherRow.holds Try.pinned (OpenSpec.ofChange pickOtherWrong)

/-- 'dogwatchlaw10.PickOne': WHATEVER THE INPUT: true; the input reads as it did. -/
def pickOneSpec : ChangeSpec := { name := "pickOne", fn := fun _ => fun
  | [d1, d2, d3, d4, d5] => { results := [.lit (.bool true)], args := [d1, d2, d3, d4, d5] }
  | _ => none }
def pickOneRow : OpenClaim := { program := "ytejhbamlnkhfcaa", sum := "a7009ba6fc25e1605a5f8491cd00714981dad907383edc39f78fe34b2e13669f", func := "dogwatch/dogwatchlaw10.PickOne", spec := "pickOne", inPlace := ["internal/abi.NoEscape", "internal/bytealg.MakeNoZero"], unfollowed := true, recurses := true, apart := false }
def PickOneSaid : Prop := pickOneRow.holds Try.pinned (OpenSpec.ofChange pickOneSpec)

/-- ITS FALSE NEIGHBOUR: 'it returns false'. Refute it at one input. -/
def pickOneWrong : ChangeSpec := { name := "pickOne", fn := fun _ => fun
  | [d1, d2, d3, d4, d5] => { results := [.lit (.bool false)], args := [d1, d2, d3, d4, d5] }
  | _ => none }
def PickOneWrongFalsely : Prop := pickOneRow.holds Try.pinned (OpenSpec.ofChange pickOneWrong)

/-- 'dogwatchlaw10.PickWipes': WHATEVER THE INPUT: true; the input reads as it did. -/
def pickWipesSpec : ChangeSpec := { name := "pickWipes", fn := fun _ => fun
  | [d] => { results := [.lit (.bool true)], args := [d] }
  | _ => none }
def pickWipesRow : OpenClaim := { program := "ytejhbamlnkhfcaa", sum := "a7009ba6fc25e1605a5f8491cd00714981dad907383edc39f78fe34b2e13669f", func := "dogwatch/dogwatchlaw10.PickWipes", spec := "pickWipes", inPlace := ["internal/abi.NoEscape", "internal/bytealg.MakeNoZero"], unfollowed := true, recurses := true, apart := false }
def PickWipesSaid : Prop := pickWipesRow.holds Try.pinned (OpenSpec.ofChange pickWipesSpec)

/-- ITS FALSE NEIGHBOUR: 'it returns false'. Refute it at one input. -/
def pickWipesWrong : ChangeSpec := { name := "pickWipes", fn := fun _ => fun
  | [d] => { results := [.lit (.bool false)], args := [d] }
  | _ => none }
def PickWipesWrongFalsely : Prop := pickWipesRow.holds Try.pinned (OpenSpec.ofChange pickWipesWrong)

/- THE SECOND FORM. 'bulk': how many values and letters a reading holds, each counted each time it is reached (what is shared counts as often as it is met; a slice's spare places count too). A statement '..UptoSaid' is the law's where the arguments, and the package variables that the reading takes, are together of bulk at most 1048576: NARROWER than '..Said'. Prove '..Said' where nothing that the law and all that it calls make is longer than what came in: it says more and counts as full. Else prove '..UptoSaid'. A law counts once. -/
mutual
def uptoBulk {H : Type} : DataW H → Nat
  | .lit (.string bytes) => bytes.length + 1
  | .lit _ => 1
  | .nil => 1
  | .ptr d => uptoBulk d + 1
  | .slice elems spare => uptoBulkAll elems + uptoBulkAll spare + 1
  | .agg parts => uptoBulkAll parts + 1
  | .iface _ d => uptoBulk d + 1
  | .map entries => uptoBulkEntries entries + 1
  | .held _ => 1
def uptoBulkAll {H : Type} : List (DataW H) → Nat
  | [] => 0
  | d :: r => uptoBulk d + uptoBulkAll r
def uptoBulkEntries {H : Type} : List (Lit × DataW H) → Nat
  | [] => 0
  | x :: r => uptoBulkEntry x + uptoBulkEntries r
def uptoBulkEntry {H : Type} : Lit × DataW H → Nat
  | (.string bytes, d) => bytes.length + uptoBulk d + 1
  | (_, d) => uptoBulk d + 1
 end
def uptoSmall : (H : Type) → List (DataW H) → Bool := fun _ ds => decide (uptoBulkAll ds ≤ 1048576)
def OpenSpec.upto (s : _root_.Go.ChangeSpec) : _root_.Go.OpenSpec := { _root_.Go.OpenSpec.ofChange s with cond := some uptoSmall }

/-- 'dogwatchlaw10.PickGreater', WHERE WHAT IT READS IS OF BULK AT MOST 1048576: true; the input reads as it did. -/
def pickGreaterUptoRow : OpenClaim := { program := "ytejhbamlnkhfcaa", sum := "a7009ba6fc25e1605a5f8491cd00714981dad907383edc39f78fe34b2e13669f", func := "dogwatch/dogwatchlaw10.PickGreater", spec := "pickGreater", inPlace := ["internal/abi.NoEscape", "internal/bytealg.MakeNoZero"], unfollowed := true, recurses := true, apart := false, narrowed := true }
def PickGreaterUptoSaid : Prop := pickGreaterUptoRow.holds Try.pinned (OpenSpec.upto pickGreaterSpec)

/-- 'dogwatchlaw10.PickOther', WHERE WHAT IT READS IS OF BULK AT MOST 1048576: true; the input reads as it did. -/
def pickOtherUptoRow : OpenClaim := { program := "ytejhbamlnkhfcaa", sum := "a7009ba6fc25e1605a5f8491cd00714981dad907383edc39f78fe34b2e13669f", func := "dogwatch/dogwatchlaw10.PickOther", spec := "pickOther", inPlace := ["internal/abi.NoEscape", "internal/bytealg.MakeNoZero"], unfollowed := true, recurses := true, apart := false, narrowed := true }
def PickOtherUptoSaid : Prop := pickOtherUptoRow.holds Try.pinned (OpenSpec.upto pickOtherSpec)

/-- 'dogwatchlaw10.PickOne', WHERE WHAT IT READS IS OF BULK AT MOST 1048576: true; the input reads as it did. -/
def pickOneUptoRow : OpenClaim := { program := "ytejhbamlnkhfcaa", sum := "a7009ba6fc25e1605a5f8491cd00714981dad907383edc39f78fe34b2e13669f", func := "dogwatch/dogwatchlaw10.PickOne", spec := "pickOne", inPlace := ["internal/abi.NoEscape", "internal/bytealg.MakeNoZero"], unfollowed := true, recurses := true, apart := false, narrowed := true }
def PickOneUptoSaid : Prop := pickOneUptoRow.holds Try.pinned (OpenSpec.upto pickOneSpec)

/-- 'dogwatchlaw10.PickWipes', WHERE WHAT IT READS IS OF BULK AT MOST 1048576: true; the input reads as it did. -/
def pickWipesUptoRow : OpenClaim := { program := "ytejhbamlnkhfcaa", sum := "a7009ba6fc25e1605a5f8491cd00714981dad907383edc39f78fe34b2e13669f", func := "dogwatch/dogwatchlaw10.PickWipes", spec := "pickWipes", inPlace := ["internal/abi.NoEscape", "internal/bytealg.MakeNoZero"], unfollowed := true, recurses := true, apart := false, narrowed := true }
def PickWipesUptoSaid : Prop := pickWipesUptoRow.holds Try.pinned (OpenSpec.upto pickWipesSpec)

end Rows
end Go.Proofs.Ytejhbamlnkhfcaa
