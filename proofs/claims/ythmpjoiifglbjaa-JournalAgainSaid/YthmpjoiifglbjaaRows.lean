/-
  No cell of these rows narrows 'for every input' (looked for: loops, veiled, ifaces, maps, wideKeys, modest, calm, conditions, laid).
  DERIVED. THE GIVEN ROWS OF THIS SEAT. 5 by the template 'for every input the law returns true; each argument reads behind the call as it read before'; 0 by the template 'total and deterministic' (their statements: YthmpjoiifglbjaaTotals.lean).
  GIVEN WITH THE SEED: the statements are not yours to turn. If you find one false, say at which input.
  Laid BY PROGRAM, IN A SANDBOX (cutbox-rows.mjs): the forced cells as the released guide's own fill.sh prints them over the translation ba30cc14a0095083… (all of the seat's roots in one cut). By AI agents, Wed Nov 11 2026. No macro, syntax, notation, axiom, sorry.
-/
import Derived.Test.YthmpjoiifglbjaaChecked
import GoSem.Claim
import GoSem.ClaimJoined
import GoSem.ClaimMapViews
import Derived.JoinedTies
import Derived.KernelRfl
namespace Go.Proofs.Ythmpjoiifglbjaa
/- THE CELL 'sum', in the pinned program and in every row, IS THE sha256 OF THE DUMP (.gsa) THAT YthmpjoiifglbjaaProg.lean LOADS. Nothing in Lean hashes anything: it is a label: what it is worth is what the hold of that sum in a sandbox is worth. -/
noncomputable def Try.pinned : Pinned := { name := "ythmpjoiifglbjaa", sum := "ba30cc14a0095083705f3b213fd75cd303d39419713ec04d6c86eb431ac0c265", checked := Try.checked }
namespace Rows
def none {H : Type} : Left H := { results := [], args := [] }

/-- 'dogwatchlaw12.JournalSafe': WHATEVER THE INPUT: true; the input reads as it did. -/
def journalSafeSpec : ChangeSpec := { name := "journalSafe", fn := fun _ => fun
  | [d1, d2, d3] => { results := [.lit (.bool true)], args := [d1, d2, d3] }
  | _ => none }
def journalSafeRow : OpenClaim := { program := "ythmpjoiifglbjaa", sum := "ba30cc14a0095083705f3b213fd75cd303d39419713ec04d6c86eb431ac0c265", func := "dogwatch/dogwatchlaw12.JournalSafe", spec := "journalSafe", inPlace := ["internal/abi.NoEscape", "internal/bytealg.MakeNoZero"], unfollowed := true, recurses := true, apart := false }
def JournalSafeSaid : Prop := journalSafeRow.holds Try.pinned (OpenSpec.ofChange journalSafeSpec)

/-- ITS FALSE NEIGHBOUR: 'it returns false'. Refute it at one input. -/
def journalSafeWrong : ChangeSpec := { name := "journalSafe", fn := fun _ => fun
  | [d1, d2, d3] => { results := [.lit (.bool false)], args := [d1, d2, d3] }
  | _ => none }
def JournalSafeWrongFalsely : Prop := journalSafeRow.holds Try.pinned (OpenSpec.ofChange journalSafeWrong)

/-- 'dogwatchlaw12.JournalOne': WHATEVER THE INPUT: true; the input reads as it did. -/
def journalOneSpec : ChangeSpec := { name := "journalOne", fn := fun _ => fun
  | [d1, d2, d3, d4] => { results := [.lit (.bool true)], args := [d1, d2, d3, d4] }
  | _ => none }
def journalOneRow : OpenClaim := { program := "ythmpjoiifglbjaa", sum := "ba30cc14a0095083705f3b213fd75cd303d39419713ec04d6c86eb431ac0c265", func := "dogwatch/dogwatchlaw12.JournalOne", spec := "journalOne", inPlace := ["internal/abi.NoEscape", "internal/bytealg.MakeNoZero"], unfollowed := true, recurses := true, apart := false }
def JournalOneSaid : Prop := journalOneRow.holds Try.pinned (OpenSpec.ofChange journalOneSpec)

/-- ITS FALSE NEIGHBOUR: 'it returns false'. Refute it at one input. -/
def journalOneWrong : ChangeSpec := { name := "journalOne", fn := fun _ => fun
  | [d1, d2, d3, d4] => { results := [.lit (.bool false)], args := [d1, d2, d3, d4] }
  | _ => none }
def JournalOneWrongFalsely : Prop := journalOneRow.holds Try.pinned (OpenSpec.ofChange journalOneWrong)

/-- 'dogwatchlaw12.JournalErases': WHATEVER THE INPUT: true; the input reads as it did. -/
def journalErasesSpec : ChangeSpec := { name := "journalErases", fn := fun _ => fun
  | [d1, d2, d3] => { results := [.lit (.bool true)], args := [d1, d2, d3] }
  | _ => none }
def journalErasesRow : OpenClaim := { program := "ythmpjoiifglbjaa", sum := "ba30cc14a0095083705f3b213fd75cd303d39419713ec04d6c86eb431ac0c265", func := "dogwatch/dogwatchlaw12.JournalErases", spec := "journalErases", inPlace := ["internal/abi.NoEscape", "internal/bytealg.MakeNoZero"], unfollowed := true, recurses := true, apart := false }
def JournalErasesSaid : Prop := journalErasesRow.holds Try.pinned (OpenSpec.ofChange journalErasesSpec)

/-- ITS FALSE NEIGHBOUR: 'it returns false'. Refute it at one input. -/
def journalErasesWrong : ChangeSpec := { name := "journalErases", fn := fun _ => fun
  | [d1, d2, d3] => { results := [.lit (.bool false)], args := [d1, d2, d3] }
  | _ => none }
def JournalErasesWrongFalsely : Prop := journalErasesRow.holds Try.pinned (OpenSpec.ofChange journalErasesWrong)

/-- 'dogwatchlaw12.JournalWorn': WHATEVER THE INPUT: true; the input reads as it did. -/
def journalWornSpec : ChangeSpec := { name := "journalWorn", fn := fun _ => fun
  | [d1, d2, d3] => { results := [.lit (.bool true)], args := [d1, d2, d3] }
  | _ => none }
def journalWornRow : OpenClaim := { program := "ythmpjoiifglbjaa", sum := "ba30cc14a0095083705f3b213fd75cd303d39419713ec04d6c86eb431ac0c265", func := "dogwatch/dogwatchlaw12.JournalWorn", spec := "journalWorn", inPlace := ["internal/abi.NoEscape", "internal/bytealg.MakeNoZero"], unfollowed := true, recurses := true, apart := false }
def JournalWornSaid : Prop := journalWornRow.holds Try.pinned (OpenSpec.ofChange journalWornSpec)

/-- ITS FALSE NEIGHBOUR: 'it returns false'. Refute it at one input. -/
def journalWornWrong : ChangeSpec := { name := "journalWorn", fn := fun _ => fun
  | [d1, d2, d3] => { results := [.lit (.bool false)], args := [d1, d2, d3] }
  | _ => none }
def JournalWornWrongFalsely : Prop := journalWornRow.holds Try.pinned (OpenSpec.ofChange journalWornWrong)

/-- 'dogwatchlaw12.JournalAgain': WHATEVER THE INPUT: true; the input reads as it did. -/
def journalAgainSpec : ChangeSpec := { name := "journalAgain", fn := fun _ => fun
  | [d1, d2, d3] => { results := [.lit (.bool true)], args := [d1, d2, d3] }
  | _ => none }
def journalAgainRow : OpenClaim := { program := "ythmpjoiifglbjaa", sum := "ba30cc14a0095083705f3b213fd75cd303d39419713ec04d6c86eb431ac0c265", func := "dogwatch/dogwatchlaw12.JournalAgain", spec := "journalAgain", inPlace := ["internal/abi.NoEscape", "internal/bytealg.MakeNoZero"], unfollowed := true, recurses := true, apart := false }
def JournalAgainSaid : Prop := journalAgainRow.holds Try.pinned (OpenSpec.ofChange journalAgainSpec)

/-- ITS FALSE NEIGHBOUR: 'it returns false'. Refute it at one input. -/
def journalAgainWrong : ChangeSpec := { name := "journalAgain", fn := fun _ => fun
  | [d1, d2, d3] => { results := [.lit (.bool false)], args := [d1, d2, d3] }
  | _ => none }
def JournalAgainWrongFalsely : Prop := journalAgainRow.holds Try.pinned (OpenSpec.ofChange journalAgainWrong)

/- THE SECOND FORM. 'bulk': how many values and letters a reading holds, each counted each time it is reached (what is shared counts as often as it is met; a slice's spare places count too). A statement '..UptoSaid' is the law's where the arguments, and the package variables that the reading takes, are together of bulk at most 1048576: NARROWER than '..Said'. Prove '..Said' where nothing that the law and all that it calls make is longer than what came in: it says more and counts as full. Else prove '..UptoSaid'. A law counts once. -/
mutual
def uptoBulk {H : Type} : DataW H → Nat
  | .lit (.string bytes) => bytes.length + 1
  | .lit _ => 1
  | .nil => 1
  | .ptr d => uptoBulk d + 1
  | .slice elems spare => uptoBulkAll elems + uptoBulkAll spare + 1
  | .agg parts => uptoBulkAll parts + 1
  | .iface _ d => uptoBulk d + 1
  | .map entries => uptoBulkEntries entries + 1
  | .held _ => 1
def uptoBulkAll {H : Type} : List (DataW H) → Nat
  | [] => 0
  | d :: r => uptoBulk d + uptoBulkAll r
def uptoBulkEntries {H : Type} : List (Lit × DataW H) → Nat
  | [] => 0
  | x :: r => uptoBulkEntry x + uptoBulkEntries r
def uptoBulkEntry {H : Type} : Lit × DataW H → Nat
  | (.string bytes, d) => bytes.length + uptoBulk d + 1
  | (_, d) => uptoBulk d + 1
 end
def uptoSmall : (H : Type) → List (DataW H) → Bool := fun _ ds => decide (uptoBulkAll ds ≤ 1048576)
def OpenSpec.upto (s : _root_.Go.ChangeSpec) : _root_.Go.OpenSpec := { _root_.Go.OpenSpec.ofChange s with cond := some uptoSmall }

/-- 'dogwatchlaw12.JournalSafe', WHERE WHAT IT READS IS OF BULK AT MOST 1048576: true; the input reads as it did. -/
def journalSafeUptoRow : OpenClaim := { program := "ythmpjoiifglbjaa", sum := "ba30cc14a0095083705f3b213fd75cd303d39419713ec04d6c86eb431ac0c265", func := "dogwatch/dogwatchlaw12.JournalSafe", spec := "journalSafe", inPlace := ["internal/abi.NoEscape", "internal/bytealg.MakeNoZero"], unfollowed := true, recurses := true, apart := false, narrowed := true }
def JournalSafeUptoSaid : Prop := journalSafeUptoRow.holds Try.pinned (OpenSpec.upto journalSafeSpec)

/-- 'dogwatchlaw12.JournalOne', WHERE WHAT IT READS IS OF BULK AT MOST 1048576: true; the input reads as it did. -/
def journalOneUptoRow : OpenClaim := { program := "ythmpjoiifglbjaa", sum := "ba30cc14a0095083705f3b213fd75cd303d39419713ec04d6c86eb431ac0c265", func := "dogwatch/dogwatchlaw12.JournalOne", spec := "journalOne", inPlace := ["internal/abi.NoEscape", "internal/bytealg.MakeNoZero"], unfollowed := true, recurses := true, apart := false, narrowed := true }
def JournalOneUptoSaid : Prop := journalOneUptoRow.holds Try.pinned (OpenSpec.upto journalOneSpec)

/-- 'dogwatchlaw12.JournalErases', WHERE WHAT IT READS IS OF BULK AT MOST 1048576: true; the input reads as it did. -/
def journalErasesUptoRow : OpenClaim := { program := "ythmpjoiifglbjaa", sum := "ba30cc14a0095083705f3b213fd75cd303d39419713ec04d6c86eb431ac0c265", func := "dogwatch/dogwatchlaw12.JournalErases", spec := "journalErases", inPlace := ["internal/abi.NoEscape", "internal/bytealg.MakeNoZero"], unfollowed := true, recurses := true, apart := false, narrowed := true }
def JournalErasesUptoSaid : Prop := journalErasesUptoRow.holds Try.pinned (OpenSpec.upto journalErasesSpec)

/-- 'dogwatchlaw12.JournalWorn', WHERE WHAT IT READS IS OF BULK AT MOST 1048576: true; the input reads as it did. -/
def journalWornUptoRow : OpenClaim := { program := "ythmpjoiifglbjaa", sum := "ba30cc14a0095083705f3b213fd75cd303d39419713ec04d6c86eb431ac0c265", func := "dogwatch/dogwatchlaw12.JournalWorn", spec := "journalWorn", inPlace := ["internal/abi.NoEscape", "internal/bytealg.MakeNoZero"], unfollowed := true, recurses := true, apart := false, narrowed := true }
def JournalWornUptoSaid : Prop := journalWornUptoRow.holds Try.pinned (OpenSpec.upto journalWornSpec)

/-- 'dogwatchlaw12.JournalAgain', WHERE WHAT IT READS IS OF BULK AT MOST 1048576: true; the input reads as it did. -/
def journalAgainUptoRow : OpenClaim := { program := "ythmpjoiifglbjaa", sum := "ba30cc14a0095083705f3b213fd75cd303d39419713ec04d6c86eb431ac0c265", func := "dogwatch/dogwatchlaw12.JournalAgain", spec := "journalAgain", inPlace := ["internal/abi.NoEscape", "internal/bytealg.MakeNoZero"], unfollowed := true, recurses := true, apart := false, narrowed := true }
def JournalAgainUptoSaid : Prop := journalAgainUptoRow.holds Try.pinned (OpenSpec.upto journalAgainSpec)

end Rows
end Go.Proofs.Ythmpjoiifglbjaa
