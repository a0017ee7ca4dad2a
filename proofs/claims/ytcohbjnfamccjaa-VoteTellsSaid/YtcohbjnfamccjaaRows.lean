/-
  No cell of these rows narrows 'for every input' (looked for: loops, veiled, ifaces, maps, wideKeys, modest, calm, conditions, laid).
  DERIVED. THE GIVEN ROWS OF THIS SEAT. 6 by the template 'for every input the law returns true; each argument reads behind the call as it read before'; 0 by the template 'total and deterministic' (their statements: YtcohbjnfamccjaaTotals.lean).
  GIVEN WITH THE SEED: the statements are not yours to turn. If you find one false, say at which input.
  Laid BY PROGRAM, IN A SANDBOX (cutbox-rows.mjs): the forced cells as the released guide's own fill.sh prints them over the translation 8a59094bf0c5c1ca… (all of the seat's roots in one cut). By AI agents, Wed Nov 11 2026. No macro, syntax, notation, axiom, sorry.
-/
import Derived.Test.YtcohbjnfamccjaaChecked
import GoSem.Claim
import GoSem.ClaimJoined
import GoSem.ClaimMapViews
import Derived.JoinedTies
import Derived.KernelRfl
namespace Go.Proofs.Ytcohbjnfamccjaa
/- THE CELL 'sum', in the pinned program and in every row, IS THE sha256 OF THE DUMP (.gsa) THAT YtcohbjnfamccjaaProg.lean LOADS. Nothing in Lean hashes anything: it is a label: what it is worth is what the hold of that sum in a sandbox is worth. -/
noncomputable def Try.pinned : Pinned := { name := "ytcohbjnfamccjaa", sum := "8a59094bf0c5c1ca6d279a54f2e9d17bba764d9b6c48af34e6d0aad46b53730a", checked := Try.checked }
namespace Rows
def none {H : Type} : Left H := { results := [], args := [] }

/-- 'dogwatchlaw17.VoteTells': WHATEVER THE INPUT: true; the input reads as it did. -/
def voteTellsSpec : ChangeSpec := { name := "voteTells", fn := fun _ => fun
  | [d1, d2, d3] => { results := [.lit (.bool true)], args := [d1, d2, d3] }
  | _ => none }
def voteTellsRow : OpenClaim := { program := "ytcohbjnfamccjaa", sum := "8a59094bf0c5c1ca6d279a54f2e9d17bba764d9b6c48af34e6d0aad46b53730a", func := "dogwatch/dogwatchlaw17.VoteTells", spec := "voteTells", apart := false }
def VoteTellsSaid : Prop := voteTellsRow.holds Try.pinned (OpenSpec.ofChange voteTellsSpec)

/-- ITS FALSE NEIGHBOUR: 'it returns false'. Refute it at one input. -/
def voteTellsWrong : ChangeSpec := { name := "voteTells", fn := fun _ => fun
  | [d1, d2, d3] => { results := [.lit (.bool false)], args := [d1, d2, d3] }
  | _ => none }
def VoteTellsWrongFalsely : Prop := voteTellsRow.holds Try.pinned (OpenSpec.ofChange voteTellsWrong)

/-- 'dogwatchlaw17.VoteTurns': WHATEVER THE INPUT: true; the input reads as it did. -/
def voteTurnsSpec : ChangeSpec := { name := "voteTurns", fn := fun _ => fun
  | [d1, d2, d3] => { results := [.lit (.bool true)], args := [d1, d2, d3] }
  | _ => none }
def voteTurnsRow : OpenClaim := { program := "ytcohbjnfamccjaa", sum := "8a59094bf0c5c1ca6d279a54f2e9d17bba764d9b6c48af34e6d0aad46b53730a", func := "dogwatch/dogwatchlaw17.VoteTurns", spec := "voteTurns", apart := false }
def VoteTurnsSaid : Prop := voteTurnsRow.holds Try.pinned (OpenSpec.ofChange voteTurnsSpec)

/-- ITS FALSE NEIGHBOUR: 'it returns false'. Refute it at one input. -/
def voteTurnsWrong : ChangeSpec := { name := "voteTurns", fn := fun _ => fun
  | [d1, d2, d3] => { results := [.lit (.bool false)], args := [d1, d2, d3] }
  | _ => none }
def VoteTurnsWrongFalsely : Prop := voteTurnsRow.holds Try.pinned (OpenSpec.ofChange voteTurnsWrong)

/-- 'dogwatchlaw17.VoteBroken': WHATEVER THE INPUT: true; the input reads as it did. -/
def voteBrokenSpec : ChangeSpec := { name := "voteBroken", fn := fun _ => fun
  | [d1, d2, d3, d4] => { results := [.lit (.bool true)], args := [d1, d2, d3, d4] }
  | _ => none }
def voteBrokenRow : OpenClaim := { program := "ytcohbjnfamccjaa", sum := "8a59094bf0c5c1ca6d279a54f2e9d17bba764d9b6c48af34e6d0aad46b53730a", func := "dogwatch/dogwatchlaw17.VoteBroken", spec := "voteBroken", apart := false }
def VoteBrokenSaid : Prop := voteBrokenRow.holds Try.pinned (OpenSpec.ofChange voteBrokenSpec)

/-- ITS FALSE NEIGHBOUR: 'it returns false'. Refute it at one input. -/
def voteBrokenWrong : ChangeSpec := { name := "voteBroken", fn := fun _ => fun
  | [d1, d2, d3, d4] => { results := [.lit (.bool false)], args := [d1, d2, d3, d4] }
  | _ => none }
def VoteBrokenWrongFalsely : Prop := voteBrokenRow.holds Try.pinned (OpenSpec.ofChange voteBrokenWrong)

/-- 'dogwatchlaw17.VoteHigher': WHATEVER THE INPUT: true; the input reads as it did. -/
def voteHigherSpec : ChangeSpec := { name := "voteHigher", fn := fun _ => fun
  | [d1, d2, d3, d4, d5, d6] => { results := [.lit (.bool true)], args := [d1, d2, d3, d4, d5, d6] }
  | _ => none }
def voteHigherRow : OpenClaim := { program := "ytcohbjnfamccjaa", sum := "8a59094bf0c5c1ca6d279a54f2e9d17bba764d9b6c48af34e6d0aad46b53730a", func := "dogwatch/dogwatchlaw17.VoteHigher", spec := "voteHigher", apart := false }
def VoteHigherSaid : Prop := voteHigherRow.holds Try.pinned (OpenSpec.ofChange voteHigherSpec)

/-- ITS FALSE NEIGHBOUR: 'it returns false'. Refute it at one input. -/
def voteHigherWrong : ChangeSpec := { name := "voteHigher", fn := fun _ => fun
  | [d1, d2, d3, d4, d5, d6] => { results := [.lit (.bool false)], args := [d1, d2, d3, d4, d5, d6] }
  | _ => none }
def VoteHigherWrongFalsely : Prop := voteHigherRow.holds Try.pinned (OpenSpec.ofChange voteHigherWrong)

/-- 'dogwatchlaw17.VoteOnce': WHATEVER THE INPUT: true; the input reads as it did. -/
def voteOnceSpec : ChangeSpec := { name := "voteOnce", fn := fun _ => fun
  | [d1, d2, d3] => { results := [.lit (.bool true)], args := [d1, d2, d3] }
  | _ => none }
def voteOnceRow : OpenClaim := { program := "ytcohbjnfamccjaa", sum := "8a59094bf0c5c1ca6d279a54f2e9d17bba764d9b6c48af34e6d0aad46b53730a", func := "dogwatch/dogwatchlaw17.VoteOnce", spec := "voteOnce", apart := false }
def VoteOnceSaid : Prop := voteOnceRow.holds Try.pinned (OpenSpec.ofChange voteOnceSpec)

/-- ITS FALSE NEIGHBOUR: 'it returns false'. Refute it at one input. -/
def voteOnceWrong : ChangeSpec := { name := "voteOnce", fn := fun _ => fun
  | [d1, d2, d3] => { results := [.lit (.bool false)], args := [d1, d2, d3] }
  | _ => none }
def VoteOnceWrongFalsely : Prop := voteOnceRow.holds Try.pinned (OpenSpec.ofChange voteOnceWrong)

/-- 'dogwatchlaw17.VoteStrong': WHATEVER THE INPUT: true; the input reads as it did. -/
def voteStrongSpec : ChangeSpec := { name := "voteStrong", fn := fun _ => fun
  | [d1, d2, d3] => { results := [.lit (.bool true)], args := [d1, d2, d3] }
  | _ => none }
def voteStrongRow : OpenClaim := { program := "ytcohbjnfamccjaa", sum := "8a59094bf0c5c1ca6d279a54f2e9d17bba764d9b6c48af34e6d0aad46b53730a", func := "dogwatch/dogwatchlaw17.VoteStrong", spec := "voteStrong", apart := false }
def VoteStrongSaid : Prop := voteStrongRow.holds Try.pinned (OpenSpec.ofChange voteStrongSpec)

/-- ITS FALSE NEIGHBOUR: 'it returns false'. Refute it at one input. -/
def voteStrongWrong : ChangeSpec := { name := "voteStrong", fn := fun _ => fun
  | [d1, d2, d3] => { results := [.lit (.bool false)], args := [d1, d2, d3] }
  | _ => none }
def VoteStrongWrongFalsely : Prop := voteStrongRow.holds Try.pinned (OpenSpec.ofChange voteStrongWrong)

/- THE SECOND FORM. 'bulk': how many values and letters a reading holds, each counted each time it is reached (what is shared counts as often as it is met; a slice's spare places count too). A statement '..UptoSaid' is the law's where the arguments, and the package variables that the reading takes, are together of bulk at most 1048576: NARROWER than '..Said'. Prove '..Said' where nothing that the law and all that it calls make is longer than what came in: it says more and counts as full. Else prove '..UptoSaid'. A law counts once. -/
mutual
def uptoBulk {H : Type} : DataW H → Nat
  | .lit (.string bytes) => bytes.length + 1
  | .lit _ => 1
  | .nil => 1
  | .ptr d => uptoBulk d + 1
  | .slice elems spare => uptoBulkAll elems + uptoBulkAll spare + 1
  | .agg parts => uptoBulkAll parts + 1
  | .iface _ d => uptoBulk d + 1
  | .map entries => uptoBulkEntries entries + 1
  | .held _ => 1
def uptoBulkAll {H : Type} : List (DataW H) → Nat
  | [] => 0
  | d :: r => uptoBulk d + uptoBulkAll r
def uptoBulkEntries {H : Type} : List (Lit × DataW H) → Nat
  | [] => 0
  | x :: r => uptoBulkEntry x + uptoBulkEntries r
def uptoBulkEntry {H : Type} : Lit × DataW H → Nat
  | (.string bytes, d) => bytes.length + uptoBulk d + 1
  | (_, d) => uptoBulk d + 1
 end
def uptoSmall : (H : Type) → List (DataW H) → Bool := fun _ ds => decide (uptoBulkAll ds ≤ 1048576)
def OpenSpec.upto (s : _root_.Go.ChangeSpec) : _root_.Go.OpenSpec := { _root_.Go.OpenSpec.ofChange s with cond := some uptoSmall }

/-- 'dogwatchlaw17.VoteTells', WHERE WHAT IT READS IS OF BULK AT MOST 1048576: true; the input reads as it did. -/
def voteTellsUptoRow : OpenClaim := { program := "ytcohbjnfamccjaa", sum := "8a59094bf0c5c1ca6d279a54f2e9d17bba764d9b6c48af34e6d0aad46b53730a", func := "dogwatch/dogwatchlaw17.VoteTells", spec := "voteTells", apart := false, narrowed := true }
def VoteTellsUptoSaid : Prop := voteTellsUptoRow.holds Try.pinned (OpenSpec.upto voteTellsSpec)

/-- 'dogwatchlaw17.VoteTurns', WHERE WHAT IT READS IS OF BULK AT MOST 1048576: true; the input reads as it did. -/
def voteTurnsUptoRow : OpenClaim := { program := "ytcohbjnfamccjaa", sum := "8a59094bf0c5c1ca6d279a54f2e9d17bba764d9b6c48af34e6d0aad46b53730a", func := "dogwatch/dogwatchlaw17.VoteTurns", spec := "voteTurns", apart := false, narrowed := true }
def VoteTurnsUptoSaid : Prop := voteTurnsUptoRow.holds Try.pinned (OpenSpec.upto voteTurnsSpec)

/-- 'dogwatchlaw17.VoteBroken', WHERE WHAT IT READS IS OF BULK AT MOST 1048576: true; the input reads as it did. -/
def voteBrokenUptoRow : OpenClaim := { program := "ytcohbjnfamccjaa", sum := "8a59094bf0c5c1ca6d279a54f2e9d17bba764d9b6c48af34e6d0aad46b53730a", func := "dogwatch/dogwatchlaw17.VoteBroken", spec := "voteBroken", apart := false, narrowed := true }
def VoteBrokenUptoSaid : Prop := voteBrokenUptoRow.holds Try.pinned (OpenSpec.upto voteBrokenSpec)

/-- 'dogwatchlaw17.VoteHigher', WHERE WHAT IT READS IS OF BULK AT MOST 1048576: true; the input reads as it did. -/
def voteHigherUptoRow : OpenClaim := { program := "ytcohbjnfamccjaa", sum := "8a59094bf0c5c1ca6d279a54f2e9d17bba764d9b6c48af34e6d0aad46b53730a", func := "dogwatch/dogwatchlaw17.VoteHigher", spec := "voteHigher", apart := false, narrowed := true }
def VoteHigherUptoSaid : Prop := voteHigherUptoRow.holds Try.pinned (OpenSpec.upto voteHigherSpec)

/-- 'dogwatchlaw17.VoteOnce', WHERE WHAT IT READS IS OF BULK AT MOST 1048576: true; the input reads as it did. -/
def voteOnceUptoRow : OpenClaim := { program := "ytcohbjnfamccjaa", sum := "8a59094bf0c5c1ca6d279a54f2e9d17bba764d9b6c48af34e6d0aad46b53730a", func := "dogwatch/dogwatchlaw17.VoteOnce", spec := "voteOnce", apart := false, narrowed := true }
def VoteOnceUptoSaid : Prop := voteOnceUptoRow.holds Try.pinned (OpenSpec.upto voteOnceSpec)

/-- 'dogwatchlaw17.VoteStrong', WHERE WHAT IT READS IS OF BULK AT MOST 1048576: true; the input reads as it did. -/
def voteStrongUptoRow : OpenClaim := { program := "ytcohbjnfamccjaa", sum := "8a59094bf0c5c1ca6d279a54f2e9d17bba764d9b6c48af34e6d0aad46b53730a", func := "dogwatch/dogwatchlaw17.VoteStrong", spec := "voteStrong", apart := false, narrowed := true }
def VoteStrongUptoSaid : Prop := voteStrongUptoRow.holds Try.pinned (OpenSpec.upto voteStrongSpec)

end Rows
end Go.Proofs.Ytcohbjnfamccjaa
