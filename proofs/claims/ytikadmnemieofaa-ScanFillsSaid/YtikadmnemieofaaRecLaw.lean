/- The laws' own helpers of layer 7: contracts only. -/
import Derived.Test.YtikadmnemieofaaRows
import Derived.Test.YtikadmnemieofaaLaid
import Derived.Test.YtikadmnemieofaaRecOwn
import Derived.Deep.RegionHeld3
import Derived.WalkLawsBesides
import Derived.WalkSpells
import Derived.IntWalk
import Derived.OpenShut
import Derived.ChangeMaps5
import Derived.Carry
import Derived.Test.YtikadmnemieofaaInts
import Derived.Test.YtikadmnemieofaaRecPlain
import Derived.Test.YtikadmnemieofaaBox
import Derived.WalkKit
import Derived.ProofKit
import Derived.Lib.Hide
namespace Go.Proofs.Ytikadmnemieofaa
open Go.RowKit
set_option linter.unusedVariables false
set_option linter.unusedSimpArgs false

open Go.ChangeShapes Go.WideShapes Go.ChangeAt Go.ChangeMaps
theorem Try.cellsRec : Try.prog.cellsOf 25 = 3 := by kernel_rfl

set_option maxRecDepth 100000 in
theorem open_rec {H : Type} {enc : TypeId × Value → H} {W : World} {base : Nat} {v : Value} {d : DataW H} {p : List MemPlace}
    (hval : Value.okWide Try.prog W .any base 25 v) (h : DataW.Trod enc Try.prog W 0 (fun _ => true) true 25 v d p) :
    ∃ r : Rec, v = .agg #[.int .i64 r.kind, .int .u64 (r.seq : Int), .int .u64 (r.data : Int)] ∧ r.ok := by
  obtain ⟨cs, rfl, hsz⟩ := okWide_struct Try.underlying25 hval
  obtain ⟨l⟩ := cs
  match l, hsz.trans Try.cellsRec with
  | [c0, c1, c2], _ =>
    obtain ⟨fuel, hf⟩ := h
    obtain ⟨xs, n, _, hx, _, hlen, hg⟩ := DataW.trod_struct Try.underlying25 hf
    match xs, hlen with
    | [y0, y1, y2], _ =>
      have g0 : DataW.trod enc Try.prog W 0 (fun _ => true) true n 3 [c0] = some y0 := by have := hg 0 _ rfl; simpa [Value.cells, Try.cellsI] using this
      have g1 : DataW.trod enc Try.prog W 0 (fun _ => true) true n 23 [c1] = some y1 := by have := hg 1 _ rfl; simpa [Value.cells, Try.cellsU64] using this
      have g2 : DataW.trod enc Try.prog W 0 (fun _ => true) true n 23 [c2] = some y2 := by have := hg 2 _ rfl; simpa [Value.cells, Try.cellsU64] using this
      obtain ⟨n0, e0, _, w0⟩ := DataW.trod_int Try.underlying3 g0
      obtain ⟨n1, e1, _, w1⟩ := DataW.trod_int Try.underlying23 g1
      obtain ⟨n2, e2, _, w2⟩ := DataW.trod_int Try.underlying23 g2
      cases e0; cases e1; cases e2
      obtain ⟨b1, rfl⟩ := int_u64 w1
      obtain ⟨b2, rfl⟩ := int_u64 w2
      exact ⟨⟨n0, b1.toNat, b2.toNat⟩, rfl, ⟨int_i64 w0, b1.isLt, b2.isLt⟩⟩

theorem beqT {a b : ByteArray} (h : a = b) : (a.toList == b.toList) = true := by rw [h]; exact beq_self_eq_true _
theorem beqF {a b : ByteArray} (h : a ≠ b) : (a.toList == b.toList) = false := by
  rw [beq_eq_false_iff_ne]; intro k; rw [ByteArray.toList_eq, ByteArray.toList_eq] at k; exact h (bl_inj k)
def rec7 : Rec := ⟨2, 7, 9⟩
theorem rec7_ok : rec7.ok := ⟨by decide, by decide, by decide⟩
theorem rec7_enc : bs (encL rec7) = ⟨#[165, 2, 0, 0, 0, 0, 0, 0, 0, 7, 0, 0, 0, 0, 0, 0, 0, 9, 177, 181, 77, 185, 90, 60]⟩ := by kernel_rfl
theorem rec7_body : bs (bodyL rec7) = ⟨#[165, 2, 0, 0, 0, 0, 0, 0, 0, 7, 0, 0, 0, 0, 0, 0, 0, 9, 177, 181, 77, 185]⟩ := by kernel_rfl
theorem rec7_dec : decE [165, 2, 0, 0, 0, 0, 0, 0, 0, 7, 0, 0, 0, 0, 0, 0, 0, 9, 177, 181, 77, 185, 90, 60] = 0 ∧ decR [165, 2, 0, 0, 0, 0, 0, 0, 0, 7, 0, 0, 0, 0, 0, 0, 0, 9, 177, 181, 77, 185, 90, 60] = rec7 := ⟨by kernel_rfl, by kernel_rfl⟩
theorem rec7_cut : decE [165, 2, 0, 0, 0, 0, 0, 0, 0, 7, 0, 0, 0, 0, 0, 0, 0, 9, 177, 181, 77, 185, 255, 255] = 9 ∧ decR [165, 2, 0, 0, 0, 0, 0, 0, 0, 7, 0, 0, 0, 0, 0, 0, 0, 9, 177, 181, 77, 185, 255, 255] = ⟨0, 0, 0⟩ := ⟨by kernel_rfl, by kernel_rfl⟩
theorem rec7_blank : decE [255, 255, 255, 255, 255, 255, 255, 255, 255, 255, 255, 255, 255, 255, 255, 255, 255, 255, 255, 255, 255, 255, 255, 255] = 5 ∧ decR [255, 255, 255, 255, 255, 255, 255, 255, 255, 255, 255, 255, 255, 255, 255, 255, 255, 255, 255, 255, 255, 255, 255, 255] = ⟨0, 0, 0⟩ := ⟨by kernel_rfl, by kernel_rfl⟩

end Go.Proofs.Ytikadmnemieofaa
