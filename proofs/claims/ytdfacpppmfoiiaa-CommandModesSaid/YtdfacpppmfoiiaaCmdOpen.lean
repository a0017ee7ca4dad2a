/- A command that is handed in, opened; no statement is proved here. -/
import Derived.Test.YtdfacpppmfoiiaaRows
import Derived.Test.YtdfacpppmfoiiaaCmdPlain
import Derived.Test.YtdfacpppmfoiiaaLaid
import Derived.Test.YtdfacpppmfoiiaaInts
import Derived.Test.YtdfacpppmfoiiaaBase
import Derived.Test.YtdfacpppmfoiiaaBox
import Derived.WalkKit
import Derived.ProofKit
import Derived.OpenShut
import Derived.ChangeMaps5
import Derived.Carry
import Derived.Lib.Hide
import Derived.OwnWalk
import Derived.Deep.RegionHeld3
import Derived.WalkLawsBesides
import Derived.WalkSpells
import Derived.IntWalk
namespace Go.Proofs.Ytdfacpppmfoiiaa
open Go.RowKit
set_option linter.unusedVariables false
set_option linter.unusedSimpArgs false

open Go.ChangeShapes Go.WideShapes Go.ChangeAt Go.ChangeMaps
def cmV (o : Cm) : List Value := [.int .i64 o.kind, .int .i64 o.n, .float .f64 o.lat, .float .f64 o.lon]
theorem Try.cellsF : Try.prog.cellsOf 24 = 1 := by kernel_rfl
theorem trod_wf {b : Nat} (h : (Lit.float .f64 b).wf = true) : b < 2 ^ 64 := by simpa [Lit.wf] using h
theorem trod_float {H : Type} {enc : TypeId × Value → H} {P : Program} {w : World} {base : Nat} {spare : Nat → Bool} {held : Bool} {fuel : Nat} {t : TypeId} {cs : List Value} {x : DataW H × List MemPlace} {k : FloatKind} (ht : P.underlying t = some (.float k)) (h : DataW.trod enc P w base spare held fuel t cs = some x) : ∃ n, cs = [.float k n] ∧ x = (.lit (.float k n), []) ∧ (Lit.float k n).wf = true := by
  cases fuel with
  | zero => simp [DataW.trod] at h
  | succ n =>
    unfold DataW.trod at h
    rw [ht] at h
    split at h <;> simp_all

theorem Try.cellsCm : Try.prog.cellsOf 26 = 4 := by kernel_rfl

set_option maxRecDepth 100000 in
/-- The cells of one command.Command, read. -/
theorem cm_of_cells {H : Type} {enc : TypeId × Value → H} {W : World} {n : Nat} {cs : List Value} {y : DataW H × List MemPlace} (hl : cs.length = 4)
    (h : DataW.trod enc Try.prog W 0 (fun _ => true) true n 26 cs = some y) : ∃ o : Cm, cs = cmV o ∧ o.ok := by
  match cs, hl with
  | [c0, c1, c2, c3], _ =>
    obtain ⟨xs, n, _, hx, _, hlen, hg⟩ := DataW.trod_struct Try.underlying26 h
    match xs, hlen with
    | [y0, y1, y2, y3], _ =>
      have g0 : DataW.trod enc Try.prog W 0 (fun _ => true) true n 3 [c0] = some y0 := by have := hg 0 _ rfl; simpa [Value.cells, Try.cellsF, Try.cellsI] using this
      have g1 : DataW.trod enc Try.prog W 0 (fun _ => true) true n 3 [c1] = some y1 := by have := hg 1 _ rfl; simpa [Value.cells, Try.cellsF, Try.cellsI] using this
      have g2 : DataW.trod enc Try.prog W 0 (fun _ => true) true n 24 [c2] = some y2 := by have := hg 2 _ rfl; simpa [Value.cells, Try.cellsF, Try.cellsI] using this
      have g3 : DataW.trod enc Try.prog W 0 (fun _ => true) true n 24 [c3] = some y3 := by have := hg 3 _ rfl; simpa [Value.cells, Try.cellsF, Try.cellsI] using this
      obtain ⟨n0, e0, _, w0⟩ := DataW.trod_int Try.underlying3 g0
      obtain ⟨n1, e1, _, w1⟩ := DataW.trod_int Try.underlying3 g1
      obtain ⟨x2, e2, _, w2⟩ := trod_float Try.underlying24 g2
      obtain ⟨x3, e3, _, w3⟩ := trod_float Try.underlying24 g3
      cases e0; cases e1; cases e2; cases e3
      exact ⟨⟨n0, n1, x2, x3⟩, rfl, ⟨int_i64 w0, int_i64 w1, trod_wf w2, trod_wf w3⟩⟩

set_option maxRecDepth 100000 in
theorem open_cm {H : Type} {enc : TypeId × Value → H} {W : World} {base : Nat} {v : Value} {d : DataW H} {p : List MemPlace}
    (hval : Value.okWide Try.prog W .any base 26 v) (h : DataW.Trod enc Try.prog W 0 (fun _ => true) true 26 v d p) :
    ∃ o : Cm, v = .agg #[.int .i64 o.kind, .int .i64 o.n, .float .f64 o.lat, .float .f64 o.lon] ∧ o.ok := by
  obtain ⟨cs, rfl, hsz⟩ := okWide_struct Try.underlying26 hval
  obtain ⟨l⟩ := cs
  obtain ⟨fuel, hf⟩ := h
  obtain ⟨o, e, hok⟩ := cm_of_cells (hsz.trans Try.cellsCm) hf
  exact ⟨o, by rw [show l = cmV o from e]; rfl, hok⟩

end Go.Proofs.Ytdfacpppmfoiiaa
