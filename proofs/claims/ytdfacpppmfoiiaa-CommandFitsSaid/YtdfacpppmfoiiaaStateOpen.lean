/- A state that is handed in, opened; no statement is proved here. -/
import Derived.Test.YtdfacpppmfoiiaaRows
import Derived.Test.YtdfacpppmfoiiaaStatePlain
import Derived.Test.YtdfacpppmfoiiaaLaid
import Derived.Test.YtdfacpppmfoiiaaInts
import Derived.Test.YtdfacpppmfoiiaaBase
import Derived.Test.YtdfacpppmfoiiaaBox
import Derived.WalkKit
import Derived.ProofKit
import Derived.OpenShut
import Derived.ChangeMaps5
import Derived.Carry
import Derived.Lib.Hide
import Derived.OwnWalk
import Derived.Deep.RegionHeld3
import Derived.WalkLawsBesides
import Derived.WalkSpells
import Derived.IntWalk
namespace Go.Proofs.Ytdfacpppmfoiiaa
open Go.RowKit
set_option linter.unusedVariables false
set_option linter.unusedSimpArgs false

open Go.ChangeShapes Go.WideShapes Go.ChangeAt Go.ChangeMaps
def stV (o : St) : List Value := [.int .i64 o.mode, .bool o.armed, .bool o.home, .int .i64 o.lat, .int .i64 o.lon, .int .i64 o.iso]
theorem Try.cellsB : Try.prog.cellsOf 4 = 1 := by kernel_rfl

theorem Try.cellsSt : Try.prog.cellsOf 23 = 6 := by kernel_rfl

set_option maxRecDepth 100000 in
/-- The cells of one state.State, read. -/
theorem st_of_cells {H : Type} {enc : TypeId × Value → H} {W : World} {n : Nat} {cs : List Value} {y : DataW H × List MemPlace} (hl : cs.length = 6)
    (h : DataW.trod enc Try.prog W 0 (fun _ => true) true n 23 cs = some y) : ∃ o : St, cs = stV o ∧ o.ok := by
  match cs, hl with
  | [c0, c1, c2, c3, c4, c5], _ =>
    obtain ⟨xs, n, _, hx, _, hlen, hg⟩ := DataW.trod_struct Try.underlying23 h
    match xs, hlen with
    | [y0, y1, y2, y3, y4, y5], _ =>
      have g0 : DataW.trod enc Try.prog W 0 (fun _ => true) true n 3 [c0] = some y0 := by have := hg 0 _ rfl; simpa [Value.cells, Try.cellsB, Try.cellsI] using this
      have g1 : DataW.trod enc Try.prog W 0 (fun _ => true) true n 4 [c1] = some y1 := by have := hg 1 _ rfl; simpa [Value.cells, Try.cellsB, Try.cellsI] using this
      have g2 : DataW.trod enc Try.prog W 0 (fun _ => true) true n 4 [c2] = some y2 := by have := hg 2 _ rfl; simpa [Value.cells, Try.cellsB, Try.cellsI] using this
      have g3 : DataW.trod enc Try.prog W 0 (fun _ => true) true n 3 [c3] = some y3 := by have := hg 3 _ rfl; simpa [Value.cells, Try.cellsB, Try.cellsI] using this
      have g4 : DataW.trod enc Try.prog W 0 (fun _ => true) true n 3 [c4] = some y4 := by have := hg 4 _ rfl; simpa [Value.cells, Try.cellsB, Try.cellsI] using this
      have g5 : DataW.trod enc Try.prog W 0 (fun _ => true) true n 3 [c5] = some y5 := by have := hg 5 _ rfl; simpa [Value.cells, Try.cellsB, Try.cellsI] using this
      obtain ⟨n0, e0, _, w0⟩ := DataW.trod_int Try.underlying3 g0
      obtain ⟨b1, e1, _⟩ := DataW.trod_bool Try.underlying4 g1
      obtain ⟨b2, e2, _⟩ := DataW.trod_bool Try.underlying4 g2
      obtain ⟨n3, e3, _, w3⟩ := DataW.trod_int Try.underlying3 g3
      obtain ⟨n4, e4, _, w4⟩ := DataW.trod_int Try.underlying3 g4
      obtain ⟨n5, e5, _, w5⟩ := DataW.trod_int Try.underlying3 g5
      cases e0; cases e1; cases e2; cases e3; cases e4; cases e5
      exact ⟨⟨n0, b1, b2, n3, n4, n5⟩, rfl, ⟨int_i64 w0, int_i64 w3, int_i64 w4, int_i64 w5⟩⟩

set_option maxRecDepth 100000 in
theorem open_st {H : Type} {enc : TypeId × Value → H} {W : World} {base : Nat} {v : Value} {d : DataW H} {p : List MemPlace}
    (hval : Value.okWide Try.prog W .any base 23 v) (h : DataW.Trod enc Try.prog W 0 (fun _ => true) true 23 v d p) :
    ∃ o : St, v = .agg #[.int .i64 o.mode, .bool o.armed, .bool o.home, .int .i64 o.lat, .int .i64 o.lon, .int .i64 o.iso] ∧ o.ok := by
  obtain ⟨cs, rfl, hsz⟩ := okWide_struct Try.underlying23 hval
  obtain ⟨l⟩ := cs
  obtain ⟨fuel, hf⟩ := h
  obtain ⟨o, e, hok⟩ := st_of_cells (hsz.trans Try.cellsSt) hf
  exact ⟨o, by rw [show l = stV o from e]; rfl, hok⟩

end Go.Proofs.Ytdfacpppmfoiiaa
