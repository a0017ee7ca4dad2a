/- A flash that is handed in, opened to its parts: no statement is proved here. -/
import Derived.Test.YtiacdcnpkfpjaaaGreatRows
import Derived.Test.YtiacdcnpkfpjaaaGreatLaid
import Derived.Test.YtiacdcnpkfpjaaaGreatFlash
import Derived.Test.YtiacdcnpkfpjaaaGreatInts
import Derived.ProofKit
import Derived.OpenShut
import Derived.ChangeMaps5
import Derived.Carry
namespace Go.Proofs.YtiacdcnpkfpjaaaGreat
open Go.ChangeShapes Go.WideShapes Go.ChangeAt Go.RowKit Go.ChangeMaps
set_option linter.unusedVariables false

theorem Tryz.cellsFl : Tryz.prog.cellsOf 25 = 5 := by kernel_rfl
theorem Tryz.cellsS2 : Tryz.prog.cellsOf 22 = 2 := by kernel_rfl
theorem Tryz.cellsI2 : Tryz.prog.cellsOf 23 = 2 := by kernel_rfl
set_option maxRecDepth 100000 in
theorem open_fl {H : Type} {enc : TypeId × Value → H} {W : World} {base : Nat} {v : Value} {d : DataW H} {p : List MemPlace}
    (hval : Value.okWide Tryz.prog W .any base 25 v) (h : DataW.Trod enc Tryz.prog W 0 (fun _ => true) true 25 v d p) :
    ∃ f : Fl, v = .agg #[.string f.b0, .string f.b1, .int .i64 f.e0, .int .i64 f.e1, .int .i64 f.lim] ∧ f.ok := by
  obtain ⟨cs, rfl, hsz⟩ := okWide_struct Tryz.underlying25 hval
  obtain ⟨l⟩ := cs
  match l, hsz.trans Tryz.cellsFl with
  | [c0, c1, c2, c3, c4], _ =>
    obtain ⟨fuel, hf⟩ := h
    obtain ⟨xs, n, _, hx, _, hlen, hg⟩ := DataW.trod_struct Tryz.underlying25 hf
    match xs, hlen with
    | [y0, y1, y2], _ =>
      have g0 : DataW.trod enc Tryz.prog W 0 (fun _ => true) true n 22 [c0, c1] = some y0 := by have := hg 0 _ rfl; simpa [Value.cells, Tryz.cellsS2] using this
      have g1 : DataW.trod enc Tryz.prog W 0 (fun _ => true) true n 23 [c2, c3] = some y1 := by have := hg 1 _ rfl; simpa [Value.cells, Tryz.cellsI2] using this
      have g2 : DataW.trod enc Tryz.prog W 0 (fun _ => true) true n 3 [c4] = some y2 := by have := hg 2 _ rfl; simpa [Value.cells, Tryz.cellsI] using this
      obtain ⟨xs0, m0, _, _, _, hl0, ha0⟩ := DataW.trod_array Tryz.underlying22 g0
      obtain ⟨xs1, m1, _, _, _, hl1, ha1⟩ := DataW.trod_array Tryz.underlying23 g1
      match xs0, hl0, xs1, hl1 with
      | [z0, z1], _, [z2, z3], _ =>
        have k0 : DataW.trod enc Tryz.prog W 0 (fun _ => true) true m0 9 [c0] = some z0 := by have := ha0 0 (by decide); simpa [Tryz.cellsS] using this
        have k1 : DataW.trod enc Tryz.prog W 0 (fun _ => true) true m0 9 [c1] = some z1 := by have := ha0 1 (by decide); simpa [Tryz.cellsS] using this
        have k2 : DataW.trod enc Tryz.prog W 0 (fun _ => true) true m1 3 [c2] = some z2 := by have := ha1 0 (by decide); simpa [Tryz.cellsI] using this
        have k3 : DataW.trod enc Tryz.prog W 0 (fun _ => true) true m1 3 [c3] = some z3 := by have := ha1 1 (by decide); simpa [Tryz.cellsI] using this
        obtain ⟨s0, e0, _, w0⟩ := DataW.trod_string Tryz.underlying9 k0
        obtain ⟨s1, e1, _, w1⟩ := DataW.trod_string Tryz.underlying9 k1
        obtain ⟨n2, e2, _, w2⟩ := DataW.trod_int Tryz.underlying3 k2
        obtain ⟨n3, e3, _, w3⟩ := DataW.trod_int Tryz.underlying3 k3
        obtain ⟨n4, e4, _, w4⟩ := DataW.trod_int Tryz.underlying3 g2
        cases e0; cases e1; cases e2; cases e3; cases e4
        exact ⟨⟨s0, s1, n2, n3, n4⟩, rfl, ⟨w0, w1, int_i64 w2, int_i64 w3, int_i64 w4⟩⟩
end Go.Proofs.YtiacdcnpkfpjaaaGreat
