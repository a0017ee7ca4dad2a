/-
  No cell of these rows narrows 'for every input' (looked for: loops, veiled, ifaces, maps, wideKeys, modest, calm, conditions, laid).
  DERIVED. THE GIVEN ROWS OF THIS SEAT. 12 by the template 'for every input the law returns true; each argument reads behind the call as it read before'; 0 by the template 'total and deterministic' (their statements: YtoemjfjmpmngeacTotals.lean).
  GIVEN WITH THE SEED: the statements are not yours to turn. If you find one false, say at which input.
  Laid BY PROGRAM, IN A SANDBOX (cutbox-rows.mjs): the forced cells as the released guide's own fill.sh prints them over the translation fc77aae8f4f89191… (all of the seat's roots in one cut). By AI agents, Wed Nov 11 2026. No macro, syntax, notation, axiom, sorry.
-/
import Derived.Test.YtoemjfjmpmngeacChecked
import GoSem.Claim
import GoSem.ClaimJoined
import GoSem.ClaimMapViews
import Derived.JoinedTies
import Derived.KernelRfl
namespace Go.Proofs.Ytoemjfjmpmngeac
/- THE CELL 'sum', in the pinned program and in every row, IS THE sha256 OF THE DUMP (.gsa) THAT YtoemjfjmpmngeacProg.lean LOADS. Nothing in Lean hashes anything: it is a label: what it is worth is what the hold of that sum in a sandbox is worth. -/
noncomputable def Try.pinned : Pinned := { name := "ytoemjfjmpmngeac", sum := "fc77aae8f4f891911ff80ed58c97abee0b7a1a51495a78206b9c7de2ce2a2d76", checked := Try.checked }
namespace Rows
def none {H : Type} : Left H := { results := [], args := [] }

/-- 'dogwatchlaw05.LayoutRises': WHATEVER THE INPUT: true; the input reads as it did. -/
def layoutRisesSpec : ChangeSpec := { name := "layoutRises", fn := fun _ => fun
  | [d1, d2] => { results := [.lit (.bool true)], args := [d1, d2] }
  | _ => none }
def layoutRisesRow : OpenClaim := { program := "ytoemjfjmpmngeac", sum := "fc77aae8f4f891911ff80ed58c97abee0b7a1a51495a78206b9c7de2ce2a2d76", func := "dogwatch/dogwatchlaw05.LayoutRises", spec := "layoutRises", apart := false }
def LayoutRisesSaid : Prop := layoutRisesRow.holds Try.pinned (OpenSpec.ofChange layoutRisesSpec)

/-- ITS FALSE NEIGHBOUR: 'it returns false'. Refute it at one input. -/
def layoutRisesWrong : ChangeSpec := { name := "layoutRises", fn := fun _ => fun
  | [d1, d2] => { results := [.lit (.bool false)], args := [d1, d2] }
  | _ => none }
def LayoutRisesWrongFalsely : Prop := layoutRisesRow.holds Try.pinned (OpenSpec.ofChange layoutRisesWrong)

/-- 'dogwatchlaw06.FieldBack': WHATEVER THE INPUT: true; the input reads as it did. -/
def fieldBackSpec : ChangeSpec := { name := "fieldBack", fn := fun _ => fun
  | [d1, d2, d3] => { results := [.lit (.bool true)], args := [d1, d2, d3] }
  | _ => none }
def fieldBackRow : OpenClaim := { program := "ytoemjfjmpmngeac", sum := "fc77aae8f4f891911ff80ed58c97abee0b7a1a51495a78206b9c7de2ce2a2d76", func := "dogwatch/dogwatchlaw06.FieldBack", spec := "fieldBack", unfollowed := true, recurses := true, apart := false }
def FieldBackSaid : Prop := fieldBackRow.holds Try.pinned (OpenSpec.ofChange fieldBackSpec)

/-- ITS FALSE NEIGHBOUR: 'it returns false'. Refute it at one input. -/
def fieldBackWrong : ChangeSpec := { name := "fieldBack", fn := fun _ => fun
  | [d1, d2, d3] => { results := [.lit (.bool false)], args := [d1, d2, d3] }
  | _ => none }
def FieldBackWrongFalsely : Prop := fieldBackRow.holds Try.pinned (OpenSpec.ofChange fieldBackWrong)

/-- 'dogwatchlaw06.FieldSigns': WHATEVER THE INPUT: true; the input reads as it did. -/
def fieldSignsSpec : ChangeSpec := { name := "fieldSigns", fn := fun _ => fun
  | [d1, d2] => { results := [.lit (.bool true)], args := [d1, d2] }
  | _ => none }
def fieldSignsRow : OpenClaim := { program := "ytoemjfjmpmngeac", sum := "fc77aae8f4f891911ff80ed58c97abee0b7a1a51495a78206b9c7de2ce2a2d76", func := "dogwatch/dogwatchlaw06.FieldSigns", spec := "fieldSigns", unfollowed := true, recurses := true, apart := false }
def FieldSignsSaid : Prop := fieldSignsRow.holds Try.pinned (OpenSpec.ofChange fieldSignsSpec)

/-- ITS FALSE NEIGHBOUR: 'it returns false'. Refute it at one input. -/
def fieldSignsWrong : ChangeSpec := { name := "fieldSigns", fn := fun _ => fun
  | [d1, d2] => { results := [.lit (.bool false)], args := [d1, d2] }
  | _ => none }
def FieldSignsWrongFalsely : Prop := fieldSignsRow.holds Try.pinned (OpenSpec.ofChange fieldSignsWrong)

/-- 'dogwatchlaw06.FieldParts': WHATEVER THE INPUT: true; the input reads as it did. -/
def fieldPartsSpec : ChangeSpec := { name := "fieldParts", fn := fun _ => fun
  | [d1, d2] => { results := [.lit (.bool true)], args := [d1, d2] }
  | _ => none }
def fieldPartsRow : OpenClaim := { program := "ytoemjfjmpmngeac", sum := "fc77aae8f4f891911ff80ed58c97abee0b7a1a51495a78206b9c7de2ce2a2d76", func := "dogwatch/dogwatchlaw06.FieldParts", spec := "fieldParts", unfollowed := true, recurses := true, apart := false }
def FieldPartsSaid : Prop := fieldPartsRow.holds Try.pinned (OpenSpec.ofChange fieldPartsSpec)

/-- ITS FALSE NEIGHBOUR: 'it returns false'. Refute it at one input. -/
def fieldPartsWrong : ChangeSpec := { name := "fieldParts", fn := fun _ => fun
  | [d1, d2] => { results := [.lit (.bool false)], args := [d1, d2] }
  | _ => none }
def FieldPartsWrongFalsely : Prop := fieldPartsRow.holds Try.pinned (OpenSpec.ofChange fieldPartsWrong)

/-- 'dogwatchlaw06.FieldOrder': WHATEVER THE INPUT: true; the input reads as it did. -/
def fieldOrderSpec : ChangeSpec := { name := "fieldOrder", fn := fun _ => fun
  | [d1, d2] => { results := [.lit (.bool true)], args := [d1, d2] }
  | _ => none }
def fieldOrderRow : OpenClaim := { program := "ytoemjfjmpmngeac", sum := "fc77aae8f4f891911ff80ed58c97abee0b7a1a51495a78206b9c7de2ce2a2d76", func := "dogwatch/dogwatchlaw06.FieldOrder", spec := "fieldOrder", unfollowed := true, recurses := true, apart := false }
def FieldOrderSaid : Prop := fieldOrderRow.holds Try.pinned (OpenSpec.ofChange fieldOrderSpec)

/-- ITS FALSE NEIGHBOUR: 'it returns false'. Refute it at one input. -/
def fieldOrderWrong : ChangeSpec := { name := "fieldOrder", fn := fun _ => fun
  | [d1, d2] => { results := [.lit (.bool false)], args := [d1, d2] }
  | _ => none }
def FieldOrderWrongFalsely : Prop := fieldOrderRow.holds Try.pinned (OpenSpec.ofChange fieldOrderWrong)

/-- 'dogwatchlaw06.FieldParted': WHATEVER THE INPUT: true; the input reads as it did. -/
def fieldPartedSpec : ChangeSpec := { name := "fieldParted", fn := fun _ => fun
  | [d1, d2] => { results := [.lit (.bool true)], args := [d1, d2] }
  | _ => none }
def fieldPartedRow : OpenClaim := { program := "ytoemjfjmpmngeac", sum := "fc77aae8f4f891911ff80ed58c97abee0b7a1a51495a78206b9c7de2ce2a2d76", func := "dogwatch/dogwatchlaw06.FieldParted", spec := "fieldParted", unfollowed := true, recurses := true, apart := false }
def FieldPartedSaid : Prop := fieldPartedRow.holds Try.pinned (OpenSpec.ofChange fieldPartedSpec)

/-- ITS FALSE NEIGHBOUR: 'it returns false'. Refute it at one input. -/
def fieldPartedWrong : ChangeSpec := { name := "fieldParted", fn := fun _ => fun
  | [d1, d2] => { results := [.lit (.bool false)], args := [d1, d2] }
  | _ => none }
def FieldPartedWrongFalsely : Prop := fieldPartedRow.holds Try.pinned (OpenSpec.ofChange fieldPartedWrong)

/-- 'dogwatchlaw07.RecordEncodes': WHATEVER THE INPUT: true; the input reads as it did. -/
def recordEncodesSpec : ChangeSpec := { name := "recordEncodes", fn := fun _ => fun
  | [d] => { results := [.lit (.bool true)], args := [d] }
  | _ => none }
def recordEncodesRow : OpenClaim := { program := "ytoemjfjmpmngeac", sum := "fc77aae8f4f891911ff80ed58c97abee0b7a1a51495a78206b9c7de2ce2a2d76", func := "dogwatch/dogwatchlaw07.RecordEncodes", spec := "recordEncodes", unfollowed := true, recurses := true, apart := false }
def RecordEncodesSaid : Prop := recordEncodesRow.holds Try.pinned (OpenSpec.ofChange recordEncodesSpec)

/-- ITS FALSE NEIGHBOUR: 'it returns false'. Refute it at one input. -/
def recordEncodesWrong : ChangeSpec := { name := "recordEncodes", fn := fun _ => fun
  | [d] => { results := [.lit (.bool false)], args := [d] }
  | _ => none }
def RecordEncodesWrongFalsely : Prop := recordEncodesRow.holds Try.pinned (OpenSpec.ofChange recordEncodesWrong)

/-- 'dogwatchlaw07.RecordDecodes': WHATEVER THE INPUT: true; the input reads as it did. -/
def recordDecodesSpec : ChangeSpec := { name := "recordDecodes", fn := fun _ => fun
  | [d] => { results := [.lit (.bool true)], args := [d] }
  | _ => none }
def recordDecodesRow : OpenClaim := { program := "ytoemjfjmpmngeac", sum := "fc77aae8f4f891911ff80ed58c97abee0b7a1a51495a78206b9c7de2ce2a2d76", func := "dogwatch/dogwatchlaw07.RecordDecodes", spec := "recordDecodes", unfollowed := true, recurses := true, apart := false }
def RecordDecodesSaid : Prop := recordDecodesRow.holds Try.pinned (OpenSpec.ofChange recordDecodesSpec)

/-- ITS FALSE NEIGHBOUR: 'it returns false'. Refute it at one input. -/
def recordDecodesWrong : ChangeSpec := { name := "recordDecodes", fn := fun _ => fun
  | [d] => { results := [.lit (.bool false)], args := [d] }
  | _ => none }
def RecordDecodesWrongFalsely : Prop := recordDecodesRow.holds Try.pinned (OpenSpec.ofChange recordDecodesWrong)

/-- 'dogwatchlaw07.RecordBack': WHATEVER THE INPUT: true; the input reads as it did. -/
def recordBackSpec : ChangeSpec := { name := "recordBack", fn := fun _ => fun
  | [d1, d2] => { results := [.lit (.bool true)], args := [d1, d2] }
  | _ => none }
def recordBackRow : OpenClaim := { program := "ytoemjfjmpmngeac", sum := "fc77aae8f4f891911ff80ed58c97abee0b7a1a51495a78206b9c7de2ce2a2d76", func := "dogwatch/dogwatchlaw07.RecordBack", spec := "recordBack", unfollowed := true, recurses := true, apart := false }
def RecordBackSaid : Prop := recordBackRow.holds Try.pinned (OpenSpec.ofChange recordBackSpec)

/-- ITS FALSE NEIGHBOUR: 'it returns false'. Refute it at one input. -/
def recordBackWrong : ChangeSpec := { name := "recordBack", fn := fun _ => fun
  | [d1, d2] => { results := [.lit (.bool false)], args := [d1, d2] }
  | _ => none }
def RecordBackWrongFalsely : Prop := recordBackRow.holds Try.pinned (OpenSpec.ofChange recordBackWrong)

/-- 'dogwatchlaw07.RecordTorn': WHATEVER THE INPUT: true; the input reads as it did. -/
def recordTornSpec : ChangeSpec := { name := "recordTorn", fn := fun _ => fun
  | [d1, d2, d3] => { results := [.lit (.bool true)], args := [d1, d2, d3] }
  | _ => none }
def recordTornRow : OpenClaim := { program := "ytoemjfjmpmngeac", sum := "fc77aae8f4f891911ff80ed58c97abee0b7a1a51495a78206b9c7de2ce2a2d76", func := "dogwatch/dogwatchlaw07.RecordTorn", spec := "recordTorn", unfollowed := true, recurses := true, apart := false }
def RecordTornSaid : Prop := recordTornRow.holds Try.pinned (OpenSpec.ofChange recordTornSpec)

/-- ITS FALSE NEIGHBOUR: 'it returns false'. Refute it at one input. -/
def recordTornWrong : ChangeSpec := { name := "recordTorn", fn := fun _ => fun
  | [d1, d2, d3] => { results := [.lit (.bool false)], args := [d1, d2, d3] }
  | _ => none }
def RecordTornWrongFalsely : Prop := recordTornRow.holds Try.pinned (OpenSpec.ofChange recordTornWrong)

/-- 'dogwatchlaw07.RecordKilled': WHATEVER THE INPUT: true; the input reads as it did. -/
def recordKilledSpec : ChangeSpec := { name := "recordKilled", fn := fun _ => fun
  | [d1, d2] => { results := [.lit (.bool true)], args := [d1, d2] }
  | _ => none }
def recordKilledRow : OpenClaim := { program := "ytoemjfjmpmngeac", sum := "fc77aae8f4f891911ff80ed58c97abee0b7a1a51495a78206b9c7de2ce2a2d76", func := "dogwatch/dogwatchlaw07.RecordKilled", spec := "recordKilled", unfollowed := true, recurses := true, apart := false }
def RecordKilledSaid : Prop := recordKilledRow.holds Try.pinned (OpenSpec.ofChange recordKilledSpec)

/-- ITS FALSE NEIGHBOUR: 'it returns false'. Refute it at one input. -/
def recordKilledWrong : ChangeSpec := { name := "recordKilled", fn := fun _ => fun
  | [d1, d2] => { results := [.lit (.bool false)], args := [d1, d2] }
  | _ => none }
def RecordKilledWrongFalsely : Prop := recordKilledRow.holds Try.pinned (OpenSpec.ofChange recordKilledWrong)

/-- 'dogwatchlaw07.RecordTurned': WHATEVER THE INPUT: true; the input reads as it did. -/
def recordTurnedSpec : ChangeSpec := { name := "recordTurned", fn := fun _ => fun
  | [d1, d2, d3, d4, d5, d6] => { results := [.lit (.bool true)], args := [d1, d2, d3, d4, d5, d6] }
  | _ => none }
def recordTurnedRow : OpenClaim := { program := "ytoemjfjmpmngeac", sum := "fc77aae8f4f891911ff80ed58c97abee0b7a1a51495a78206b9c7de2ce2a2d76", func := "dogwatch/dogwatchlaw07.RecordTurned", spec := "recordTurned", unfollowed := true, recurses := true, apart := false }
def RecordTurnedSaid : Prop := recordTurnedRow.holds Try.pinned (OpenSpec.ofChange recordTurnedSpec)

/-- ITS FALSE NEIGHBOUR: 'it returns false'. Refute it at one input. -/
def recordTurnedWrong : ChangeSpec := { name := "recordTurned", fn := fun _ => fun
  | [d1, d2, d3, d4, d5, d6] => { results := [.lit (.bool false)], args := [d1, d2, d3, d4, d5, d6] }
  | _ => none }
def RecordTurnedWrongFalsely : Prop := recordTurnedRow.holds Try.pinned (OpenSpec.ofChange recordTurnedWrong)

/- THE SECOND FORM. 'bulk': how many values and letters a reading holds, each counted each time it is reached (what is shared counts as often as it is met; a slice's spare places count too). A statement '..UptoSaid' is the law's where the arguments, and the package variables that the reading takes, are together of bulk at most 1048576: NARROWER than '..Said'. Prove '..Said' where nothing that the law and all that it calls make is longer than what came in: it says more and counts as full. Else prove '..UptoSaid'. A law counts once. -/
mutual
def uptoBulk {H : Type} : DataW H → Nat
  | .lit (.string bytes) => bytes.length + 1
  | .lit _ => 1
  | .nil => 1
  | .ptr d => uptoBulk d + 1
  | .slice elems spare => uptoBulkAll elems + uptoBulkAll spare + 1
  | .agg parts => uptoBulkAll parts + 1
  | .iface _ d => uptoBulk d + 1
  | .map entries => uptoBulkEntries entries + 1
  | .held _ => 1
def uptoBulkAll {H : Type} : List (DataW H) → Nat
  | [] => 0
  | d :: r => uptoBulk d + uptoBulkAll r
def uptoBulkEntries {H : Type} : List (Lit × DataW H) → Nat
  | [] => 0
  | x :: r => uptoBulkEntry x + uptoBulkEntries r
def uptoBulkEntry {H : Type} : Lit × DataW H → Nat
  | (.string bytes, d) => bytes.length + uptoBulk d + 1
  | (_, d) => uptoBulk d + 1
 end
def uptoSmall : (H : Type) → List (DataW H) → Bool := fun _ ds => decide (uptoBulkAll ds ≤ 1048576)
def OpenSpec.upto (s : _root_.Go.ChangeSpec) : _root_.Go.OpenSpec := { _root_.Go.OpenSpec.ofChange s with cond := some uptoSmall }

/-- 'dogwatchlaw05.LayoutRises', WHERE WHAT IT READS IS OF BULK AT MOST 1048576: true; the input reads as it did. -/
def layoutRisesUptoRow : OpenClaim := { program := "ytoemjfjmpmngeac", sum := "fc77aae8f4f891911ff80ed58c97abee0b7a1a51495a78206b9c7de2ce2a2d76", func := "dogwatch/dogwatchlaw05.LayoutRises", spec := "layoutRises", apart := false, narrowed := true }
def LayoutRisesUptoSaid : Prop := layoutRisesUptoRow.holds Try.pinned (OpenSpec.upto layoutRisesSpec)

/-- 'dogwatchlaw06.FieldBack', WHERE WHAT IT READS IS OF BULK AT MOST 1048576: true; the input reads as it did. -/
def fieldBackUptoRow : OpenClaim := { program := "ytoemjfjmpmngeac", sum := "fc77aae8f4f891911ff80ed58c97abee0b7a1a51495a78206b9c7de2ce2a2d76", func := "dogwatch/dogwatchlaw06.FieldBack", spec := "fieldBack", unfollowed := true, recurses := true, apart := false, narrowed := true }
def FieldBackUptoSaid : Prop := fieldBackUptoRow.holds Try.pinned (OpenSpec.upto fieldBackSpec)

/-- 'dogwatchlaw06.FieldSigns', WHERE WHAT IT READS IS OF BULK AT MOST 1048576: true; the input reads as it did. -/
def fieldSignsUptoRow : OpenClaim := { program := "ytoemjfjmpmngeac", sum := "fc77aae8f4f891911ff80ed58c97abee0b7a1a51495a78206b9c7de2ce2a2d76", func := "dogwatch/dogwatchlaw06.FieldSigns", spec := "fieldSigns", unfollowed := true, recurses := true, apart := false, narrowed := true }
def FieldSignsUptoSaid : Prop := fieldSignsUptoRow.holds Try.pinned (OpenSpec.upto fieldSignsSpec)

/-- 'dogwatchlaw06.FieldParts', WHERE WHAT IT READS IS OF BULK AT MOST 1048576: true; the input reads as it did. -/
def fieldPartsUptoRow : OpenClaim := { program := "ytoemjfjmpmngeac", sum := "fc77aae8f4f891911ff80ed58c97abee0b7a1a51495a78206b9c7de2ce2a2d76", func := "dogwatch/dogwatchlaw06.FieldParts", spec := "fieldParts", unfollowed := true, recurses := true, apart := false, narrowed := true }
def FieldPartsUptoSaid : Prop := fieldPartsUptoRow.holds Try.pinned (OpenSpec.upto fieldPartsSpec)

/-- 'dogwatchlaw06.FieldOrder', WHERE WHAT IT READS IS OF BULK AT MOST 1048576: true; the input reads as it did. -/
def fieldOrderUptoRow : OpenClaim := { program := "ytoemjfjmpmngeac", sum := "fc77aae8f4f891911ff80ed58c97abee0b7a1a51495a78206b9c7de2ce2a2d76", func := "dogwatch/dogwatchlaw06.FieldOrder", spec := "fieldOrder", unfollowed := true, recurses := true, apart := false, narrowed := true }
def FieldOrderUptoSaid : Prop := fieldOrderUptoRow.holds Try.pinned (OpenSpec.upto fieldOrderSpec)

/-- 'dogwatchlaw06.FieldParted', WHERE WHAT IT READS IS OF BULK AT MOST 1048576: true; the input reads as it did. -/
def fieldPartedUptoRow : OpenClaim := { program := "ytoemjfjmpmngeac", sum := "fc77aae8f4f891911ff80ed58c97abee0b7a1a51495a78206b9c7de2ce2a2d76", func := "dogwatch/dogwatchlaw06.FieldParted", spec := "fieldParted", unfollowed := true, recurses := true, apart := false, narrowed := true }
def FieldPartedUptoSaid : Prop := fieldPartedUptoRow.holds Try.pinned (OpenSpec.upto fieldPartedSpec)

/-- 'dogwatchlaw07.RecordEncodes', WHERE WHAT IT READS IS OF BULK AT MOST 1048576: true; the input reads as it did. -/
def recordEncodesUptoRow : OpenClaim := { program := "ytoemjfjmpmngeac", sum := "fc77aae8f4f891911ff80ed58c97abee0b7a1a51495a78206b9c7de2ce2a2d76", func := "dogwatch/dogwatchlaw07.RecordEncodes", spec := "recordEncodes", unfollowed := true, recurses := true, apart := false, narrowed := true }
def RecordEncodesUptoSaid : Prop := recordEncodesUptoRow.holds Try.pinned (OpenSpec.upto recordEncodesSpec)

/-- 'dogwatchlaw07.RecordDecodes', WHERE WHAT IT READS IS OF BULK AT MOST 1048576: true; the input reads as it did. -/
def recordDecodesUptoRow : OpenClaim := { program := "ytoemjfjmpmngeac", sum := "fc77aae8f4f891911ff80ed58c97abee0b7a1a51495a78206b9c7de2ce2a2d76", func := "dogwatch/dogwatchlaw07.RecordDecodes", spec := "recordDecodes", unfollowed := true, recurses := true, apart := false, narrowed := true }
def RecordDecodesUptoSaid : Prop := recordDecodesUptoRow.holds Try.pinned (OpenSpec.upto recordDecodesSpec)

/-- 'dogwatchlaw07.RecordBack', WHERE WHAT IT READS IS OF BULK AT MOST 1048576: true; the input reads as it did. -/
def recordBackUptoRow : OpenClaim := { program := "ytoemjfjmpmngeac", sum := "fc77aae8f4f891911ff80ed58c97abee0b7a1a51495a78206b9c7de2ce2a2d76", func := "dogwatch/dogwatchlaw07.RecordBack", spec := "recordBack", unfollowed := true, recurses := true, apart := false, narrowed := true }
def RecordBackUptoSaid : Prop := recordBackUptoRow.holds Try.pinned (OpenSpec.upto recordBackSpec)

/-- 'dogwatchlaw07.RecordTorn', WHERE WHAT IT READS IS OF BULK AT MOST 1048576: true; the input reads as it did. -/
def recordTornUptoRow : OpenClaim := { program := "ytoemjfjmpmngeac", sum := "fc77aae8f4f891911ff80ed58c97abee0b7a1a51495a78206b9c7de2ce2a2d76", func := "dogwatch/dogwatchlaw07.RecordTorn", spec := "recordTorn", unfollowed := true, recurses := true, apart := false, narrowed := true }
def RecordTornUptoSaid : Prop := recordTornUptoRow.holds Try.pinned (OpenSpec.upto recordTornSpec)

/-- 'dogwatchlaw07.RecordKilled', WHERE WHAT IT READS IS OF BULK AT MOST 1048576: true; the input reads as it did. -/
def recordKilledUptoRow : OpenClaim := { program := "ytoemjfjmpmngeac", sum := "fc77aae8f4f891911ff80ed58c97abee0b7a1a51495a78206b9c7de2ce2a2d76", func := "dogwatch/dogwatchlaw07.RecordKilled", spec := "recordKilled", unfollowed := true, recurses := true, apart := false, narrowed := true }
def RecordKilledUptoSaid : Prop := recordKilledUptoRow.holds Try.pinned (OpenSpec.upto recordKilledSpec)

/-- 'dogwatchlaw07.RecordTurned', WHERE WHAT IT READS IS OF BULK AT MOST 1048576: true; the input reads as it did. -/
def recordTurnedUptoRow : OpenClaim := { program := "ytoemjfjmpmngeac", sum := "fc77aae8f4f891911ff80ed58c97abee0b7a1a51495a78206b9c7de2ce2a2d76", func := "dogwatch/dogwatchlaw07.RecordTurned", spec := "recordTurned", unfollowed := true, recurses := true, apart := false, narrowed := true }
def RecordTurnedUptoSaid : Prop := recordTurnedUptoRow.holds Try.pinned (OpenSpec.upto recordTurnedSpec)

end Rows
end Go.Proofs.Ytoemjfjmpmngeac
