/- The laws' own helper of layer 18: contracts only. -/
import Derived.Test.YtokfglgghdeakaaRows
import Derived.Test.YtokfglgghdeakaaDebPlain
import Derived.Test.YtokfglgghdeakaaIntsAt
import Derived.Test.YtokfglgghdeakaaIntsOwn
import Derived.Test.YtokfglgghdeakaaBs
import Derived.Test.YtokfglgghdeakaaInts
import Derived.WalkKit
import Derived.ProofKit
import Derived.Lib.Hide
import Derived.OwnWalk
import Derived.Deep.RegionHeld3
import Derived.WalkLawsBesides
import Derived.WalkSpells
import Derived.IntWalk
import Derived.Test.YtokfglgghdeakaaDebOpen
import Derived.Test.YtokfglgghdeakaaDebOwn
import Derived.Test.YtokfglgghdeakaaDebRef
namespace Go.Proofs.Ytokfglgghdeakaa
open Go.RowKit
set_option linter.unusedVariables false
set_option linter.unusedSimpArgs false

theorem ints_row {W : World} {base : Nat} {e : TypeId} {v : Value} {l : List Int} (h : W.ownsRow base e 1 v l.length (l.map (Value.int .i64))) : ∃ A c, v = .slice A l.length c ∧ IntsAt W A l ∧ l.length ≤ c ∧ c ≤ maxLen := by
  rcases h.2 with ⟨rfl, h0⟩ | ⟨g, cap, cur, rfl, _, hg, h1, h2, _⟩
  · exact ⟨none, 0, by rw [h0], fun hn => by omega, by omega, Nat.zero_le _⟩
  · refine ⟨some ⟨g, 0, none⟩, cap, rfl, fun _ => ⟨g, 0, rfl, (Array.getElem?_eq_some_iff.1 hg).1, fun k v hk => ?_⟩, h1, h2⟩
    have := h.cells (g := g) rfl k (.int .i64 v) (by rw [List.getElem?_map, hk]; rfl)
    rw [show (⟨g, 0 + k, none⟩ : Addr) = (⟨g, 0, none⟩ : Addr).add k from by simp [Addr.add]]; exact this

set_option maxRecDepth 100000 in
set_option maxHeartbeats 4000000 in
theorem shown18 (W : World) : Gives Try.prog 7 #[] W (.bool true) := by
  have TA1 := Lib.hid (fun (V : World) (g : Nat) (x : Box 3 V g [.int .i64 2, .int .i64 0, .int .i64 2, .int .i64 2]) => (show Gives Try.prog 10 #[.agg #[.int .i64 0, .int .i64 0], .slice (some ⟨g, 0, none⟩) 4 4] V (.agg #[.int .i64 2, .int .i64 3]) from own18All ⟨0, 0⟩ [2, 0, 2, 2] (some ⟨g, 0, none⟩) 4 V (ints_of_box (l := [2, 0, 2, 2]) x) ⟨by decide, by decide⟩))
  have TV1 := Lib.hid (fun (V : World) => (show Gives Try.prog 12 #[.agg #[.int .i64 2, .int .i64 3]] V (.int .i64 2) from own18Verdict ⟨2, 3⟩ V))
  have TA2 := Lib.hid (fun (V : World) (g : Nat) (x : Box 3 V g [.int .i64 2, .int .i64 2, .int .i64 1, .int .i64 2]) => (show Gives Try.prog 10 #[.agg #[.int .i64 0, .int .i64 0], .slice (some ⟨g, 0, none⟩) 4 4] V (.agg #[.int .i64 2, .int .i64 1]) from own18All ⟨0, 0⟩ [2, 2, 1, 2] (some ⟨g, 0, none⟩) 4 V (ints_of_box (l := [2, 2, 1, 2]) x) ⟨by decide, by decide⟩))
  have TV2 := Lib.hid (fun (V : World) => (show Gives Try.prog 12 #[.agg #[.int .i64 2, .int .i64 1]] V (.int .i64 0) from own18Verdict ⟨2, 1⟩ V))
  have TD := Lib.hid (fun (V : World) => (show Gives Try.prog 8 #[.agg #[.int .i64 1, .int .i64 2], .int .i64 1] V (.agg #[.int .i64 1, .int .i64 3]) from own18Add ⟨1, 2⟩ 1 V))
  have st := Bs.nil W
  go_enter Try.func7, Try.ntmps7
  replace st := st.alloc 3 [.int .i64 2, .int .i64 0, .int .i64 2, .int .i64 2]
  go_wp2_with fail; refine callB st (TA1.out _ _ (st.box 0 rfl)) ?_; clear st; intro V1 st
  go_wp2_with fail; refine callB st (TV1.out _) ?_; clear st; intro V2 st
  replace st := st.alloc 3 [.int .i64 2, .int .i64 2, .int .i64 1, .int .i64 2]
  go_wp2_with fail; refine callB st (TA2.out _ _ (st.box 0 rfl)) ?_; clear st; intro V3 st
  go_wp2_with fail; refine callB st (TV2.out _) ?_; clear st; intro V4 st
  go_wp2_with fail; refine callB st (TD.out _) ?_; clear st; intro V5 st
  go_wp2; go_ret; exact ⟨rfl, st.lo⟩

end Go.Proofs.Ytokfglgghdeakaa
