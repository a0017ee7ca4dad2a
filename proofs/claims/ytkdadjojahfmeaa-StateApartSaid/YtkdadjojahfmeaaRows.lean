/-
  No cell of these rows narrows 'for every input' (looked for: loops, veiled, ifaces, maps, wideKeys, modest, calm, conditions, laid).
  DERIVED. THE GIVEN ROWS OF THIS SEAT. 6 by the template 'for every input the law returns true; each argument reads behind the call as it read before'; 0 by the template 'total and deterministic' (their statements: YtkdadjojahfmeaaTotals.lean).
  GIVEN WITH THE SEED: the statements are not yours to turn. If you find one false, say at which input.
  Laid BY PROGRAM, IN A SANDBOX (cutbox-rows.mjs): the forced cells as the released guide's own fill.sh prints them over the translation f3a220d5dbf94cdf… (all of the seat's roots in one cut). By AI agents, Wed Nov 11 2026. No macro, syntax, notation, axiom, sorry.
-/
import Derived.Test.YtkdadjojahfmeaaChecked
import GoSem.Claim
import GoSem.ClaimJoined
import GoSem.ClaimMapViews
import Derived.JoinedTies
import Derived.KernelRfl
namespace Go.Proofs.Ytkdadjojahfmeaa
/- THE CELL 'sum', in the pinned program and in every row, IS THE sha256 OF THE DUMP (.gsa) THAT YtkdadjojahfmeaaProg.lean LOADS. Nothing in Lean hashes anything: it is a label: what it is worth is what the hold of that sum in a sandbox is worth. -/
noncomputable def Try.pinned : Pinned := { name := "ytkdadjojahfmeaa", sum := "f3a220d5dbf94cdfd5caee4defccdec11e187044135d11c19a0fedbc2bf62ddc", checked := Try.checked }
namespace Rows
def none {H : Type} : Left H := { results := [], args := [] }

/-- 'dogwatchlaw14.StateTells': WHATEVER THE INPUT: true; the input reads as it did. -/
def stateTellsSpec : ChangeSpec := { name := "stateTells", fn := fun _ => fun
  | [d1, d2] => { results := [.lit (.bool true)], args := [d1, d2] }
  | _ => none }
def stateTellsRow : OpenClaim := { program := "ytkdadjojahfmeaa", sum := "f3a220d5dbf94cdfd5caee4defccdec11e187044135d11c19a0fedbc2bf62ddc", func := "dogwatch/dogwatchlaw14.StateTells", spec := "stateTells", apart := false }
def StateTellsSaid : Prop := stateTellsRow.holds Try.pinned (OpenSpec.ofChange stateTellsSpec)

/-- ITS FALSE NEIGHBOUR: 'it returns false'. Refute it at one input. -/
def stateTellsWrong : ChangeSpec := { name := "stateTells", fn := fun _ => fun
  | [d1, d2] => { results := [.lit (.bool false)], args := [d1, d2] }
  | _ => none }
def StateTellsWrongFalsely : Prop := stateTellsRow.holds Try.pinned (OpenSpec.ofChange stateTellsWrong)

/-- 'dogwatchlaw14.StateBack': WHATEVER THE INPUT: true; the input reads as it did. -/
def stateBackSpec : ChangeSpec := { name := "stateBack", fn := fun _ => fun
  | [d1, d2] => { results := [.lit (.bool true)], args := [d1, d2] }
  | _ => none }
def stateBackRow : OpenClaim := { program := "ytkdadjojahfmeaa", sum := "f3a220d5dbf94cdfd5caee4defccdec11e187044135d11c19a0fedbc2bf62ddc", func := "dogwatch/dogwatchlaw14.StateBack", spec := "stateBack", apart := false }
def StateBackSaid : Prop := stateBackRow.holds Try.pinned (OpenSpec.ofChange stateBackSpec)

/-- ITS FALSE NEIGHBOUR: 'it returns false'. Refute it at one input. -/
def stateBackWrong : ChangeSpec := { name := "stateBack", fn := fun _ => fun
  | [d1, d2] => { results := [.lit (.bool false)], args := [d1, d2] }
  | _ => none }
def StateBackWrongFalsely : Prop := stateBackRow.holds Try.pinned (OpenSpec.ofChange stateBackWrong)

/-- 'dogwatchlaw14.StateApart': WHATEVER THE INPUT: true; the input reads as it did. -/
def stateApartSpec : ChangeSpec := { name := "stateApart", fn := fun _ => fun
  | [d1, d2] => { results := [.lit (.bool true)], args := [d1, d2] }
  | _ => none }
def stateApartRow : OpenClaim := { program := "ytkdadjojahfmeaa", sum := "f3a220d5dbf94cdfd5caee4defccdec11e187044135d11c19a0fedbc2bf62ddc", func := "dogwatch/dogwatchlaw14.StateApart", spec := "stateApart", apart := false }
def StateApartSaid : Prop := stateApartRow.holds Try.pinned (OpenSpec.ofChange stateApartSpec)

/-- ITS FALSE NEIGHBOUR: 'it returns false'. Refute it at one input. -/
def stateApartWrong : ChangeSpec := { name := "stateApart", fn := fun _ => fun
  | [d1, d2] => { results := [.lit (.bool false)], args := [d1, d2] }
  | _ => none }
def StateApartWrongFalsely : Prop := stateApartRow.holds Try.pinned (OpenSpec.ofChange stateApartWrong)

/-- 'dogwatchlaw14.StateSound': WHATEVER THE INPUT: true; the input reads as it did. -/
def stateSoundSpec : ChangeSpec := { name := "stateSound", fn := fun _ => fun
  | [d1, d2] => { results := [.lit (.bool true)], args := [d1, d2] }
  | _ => none }
def stateSoundRow : OpenClaim := { program := "ytkdadjojahfmeaa", sum := "f3a220d5dbf94cdfd5caee4defccdec11e187044135d11c19a0fedbc2bf62ddc", func := "dogwatch/dogwatchlaw14.StateSound", spec := "stateSound", apart := false }
def StateSoundSaid : Prop := stateSoundRow.holds Try.pinned (OpenSpec.ofChange stateSoundSpec)

/-- ITS FALSE NEIGHBOUR: 'it returns false'. Refute it at one input. -/
def stateSoundWrong : ChangeSpec := { name := "stateSound", fn := fun _ => fun
  | [d1, d2] => { results := [.lit (.bool false)], args := [d1, d2] }
  | _ => none }
def StateSoundWrongFalsely : Prop := stateSoundRow.holds Try.pinned (OpenSpec.ofChange stateSoundWrong)

/-- 'dogwatchlaw14.StateSpare': WHATEVER THE INPUT: true; the input reads as it did. -/
def stateSpareSpec : ChangeSpec := { name := "stateSpare", fn := fun _ => fun
  | [d1, d2, d3] => { results := [.lit (.bool true)], args := [d1, d2, d3] }
  | _ => none }
def stateSpareRow : OpenClaim := { program := "ytkdadjojahfmeaa", sum := "f3a220d5dbf94cdfd5caee4defccdec11e187044135d11c19a0fedbc2bf62ddc", func := "dogwatch/dogwatchlaw14.StateSpare", spec := "stateSpare", apart := false }
def StateSpareSaid : Prop := stateSpareRow.holds Try.pinned (OpenSpec.ofChange stateSpareSpec)

/-- ITS FALSE NEIGHBOUR: 'it returns false'. Refute it at one input. -/
def stateSpareWrong : ChangeSpec := { name := "stateSpare", fn := fun _ => fun
  | [d1, d2, d3] => { results := [.lit (.bool false)], args := [d1, d2, d3] }
  | _ => none }
def StateSpareWrongFalsely : Prop := stateSpareRow.holds Try.pinned (OpenSpec.ofChange stateSpareWrong)

/-- 'dogwatchlaw14.StateFields': WHATEVER THE INPUT: true; the input reads as it did. -/
def stateFieldsSpec : ChangeSpec := { name := "stateFields", fn := fun _ => fun
  | [d1, d2, d3] => { results := [.lit (.bool true)], args := [d1, d2, d3] }
  | _ => none }
def stateFieldsRow : OpenClaim := { program := "ytkdadjojahfmeaa", sum := "f3a220d5dbf94cdfd5caee4defccdec11e187044135d11c19a0fedbc2bf62ddc", func := "dogwatch/dogwatchlaw14.StateFields", spec := "stateFields", apart := false }
def StateFieldsSaid : Prop := stateFieldsRow.holds Try.pinned (OpenSpec.ofChange stateFieldsSpec)

/-- ITS FALSE NEIGHBOUR: 'it returns false'. Refute it at one input. -/
def stateFieldsWrong : ChangeSpec := { name := "stateFields", fn := fun _ => fun
  | [d1, d2, d3] => { results := [.lit (.bool false)], args := [d1, d2, d3] }
  | _ => none }
def StateFieldsWrongFalsely : Prop := stateFieldsRow.holds Try.pinned (OpenSpec.ofChange stateFieldsWrong)

/- THE SECOND FORM. 'bulk': how many values and letters a reading holds, each counted each time it is reached (what is shared counts as often as it is met; a slice's spare places count too). A statement '..UptoSaid' is the law's where the arguments, and the package variables that the reading takes, are together of bulk at most 1048576: NARROWER than '..Said'. Prove '..Said' where nothing that the law and all that it calls make is longer than what came in: it says more and counts as full. Else prove '..UptoSaid'. A law counts once. -/
mutual
def uptoBulk {H : Type} : DataW H → Nat
  | .lit (.string bytes) => bytes.length + 1
  | .lit _ => 1
  | .nil => 1
  | .ptr d => uptoBulk d + 1
  | .slice elems spare => uptoBulkAll elems + uptoBulkAll spare + 1
  | .agg parts => uptoBulkAll parts + 1
  | .iface _ d => uptoBulk d + 1
  | .map entries => uptoBulkEntries entries + 1
  | .held _ => 1
def uptoBulkAll {H : Type} : List (DataW H) → Nat
  | [] => 0
  | d :: r => uptoBulk d + uptoBulkAll r
def uptoBulkEntries {H : Type} : List (Lit × DataW H) → Nat
  | [] => 0
  | x :: r => uptoBulkEntry x + uptoBulkEntries r
def uptoBulkEntry {H : Type} : Lit × DataW H → Nat
  | (.string bytes, d) => bytes.length + uptoBulk d + 1
  | (_, d) => uptoBulk d + 1
 end
def uptoSmall : (H : Type) → List (DataW H) → Bool := fun _ ds => decide (uptoBulkAll ds ≤ 1048576)
def OpenSpec.upto (s : _root_.Go.ChangeSpec) : _root_.Go.OpenSpec := { _root_.Go.OpenSpec.ofChange s with cond := some uptoSmall }

/-- 'dogwatchlaw14.StateTells', WHERE WHAT IT READS IS OF BULK AT MOST 1048576: true; the input reads as it did. -/
def stateTellsUptoRow : OpenClaim := { program := "ytkdadjojahfmeaa", sum := "f3a220d5dbf94cdfd5caee4defccdec11e187044135d11c19a0fedbc2bf62ddc", func := "dogwatch/dogwatchlaw14.StateTells", spec := "stateTells", apart := false, narrowed := true }
def StateTellsUptoSaid : Prop := stateTellsUptoRow.holds Try.pinned (OpenSpec.upto stateTellsSpec)

/-- 'dogwatchlaw14.StateBack', WHERE WHAT IT READS IS OF BULK AT MOST 1048576: true; the input reads as it did. -/
def stateBackUptoRow : OpenClaim := { program := "ytkdadjojahfmeaa", sum := "f3a220d5dbf94cdfd5caee4defccdec11e187044135d11c19a0fedbc2bf62ddc", func := "dogwatch/dogwatchlaw14.StateBack", spec := "stateBack", apart := false, narrowed := true }
def StateBackUptoSaid : Prop := stateBackUptoRow.holds Try.pinned (OpenSpec.upto stateBackSpec)

/-- 'dogwatchlaw14.StateApart', WHERE WHAT IT READS IS OF BULK AT MOST 1048576: true; the input reads as it did. -/
def stateApartUptoRow : OpenClaim := { program := "ytkdadjojahfmeaa", sum := "f3a220d5dbf94cdfd5caee4defccdec11e187044135d11c19a0fedbc2bf62ddc", func := "dogwatch/dogwatchlaw14.StateApart", spec := "stateApart", apart := false, narrowed := true }
def StateApartUptoSaid : Prop := stateApartUptoRow.holds Try.pinned (OpenSpec.upto stateApartSpec)

/-- 'dogwatchlaw14.StateSound', WHERE WHAT IT READS IS OF BULK AT MOST 1048576: true; the input reads as it did. -/
def stateSoundUptoRow : OpenClaim := { program := "ytkdadjojahfmeaa", sum := "f3a220d5dbf94cdfd5caee4defccdec11e187044135d11c19a0fedbc2bf62ddc", func := "dogwatch/dogwatchlaw14.StateSound", spec := "stateSound", apart := false, narrowed := true }
def StateSoundUptoSaid : Prop := stateSoundUptoRow.holds Try.pinned (OpenSpec.upto stateSoundSpec)

/-- 'dogwatchlaw14.StateSpare', WHERE WHAT IT READS IS OF BULK AT MOST 1048576: true; the input reads as it did. -/
def stateSpareUptoRow : OpenClaim := { program := "ytkdadjojahfmeaa", sum := "f3a220d5dbf94cdfd5caee4defccdec11e187044135d11c19a0fedbc2bf62ddc", func := "dogwatch/dogwatchlaw14.StateSpare", spec := "stateSpare", apart := false, narrowed := true }
def StateSpareUptoSaid : Prop := stateSpareUptoRow.holds Try.pinned (OpenSpec.upto stateSpareSpec)

/-- 'dogwatchlaw14.StateFields', WHERE WHAT IT READS IS OF BULK AT MOST 1048576: true; the input reads as it did. -/
def stateFieldsUptoRow : OpenClaim := { program := "ytkdadjojahfmeaa", sum := "f3a220d5dbf94cdfd5caee4defccdec11e187044135d11c19a0fedbc2bf62ddc", func := "dogwatch/dogwatchlaw14.StateFields", spec := "stateFields", apart := false, narrowed := true }
def StateFieldsUptoSaid : Prop := stateFieldsUptoRow.holds Try.pinned (OpenSpec.upto stateFieldsSpec)

end Rows
end Go.Proofs.Ytkdadjojahfmeaa
