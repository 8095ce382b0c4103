/-
  What a row of layer 15 needs, which lists the two tables of unicode/utf8: that the world holds them, a world for the witness.
-/
import Derived.Test.YtfdbpeplmkfijaaDoorCards
import Derived.Test.YtfdbpeplmkfijaaDoorTie
import Derived.Test.YtfdbpeplmkfijaaDoorIwr
import Derived.Deep.DeepHandedRow
import Derived.Deep.CondSized
import Derived.Lib.LaidTab
import Derived.Lib.LaidIn
import Derived.Lib.LaidU8T
import Derived.PinnedBridge
import Derived.SizedLaws
import Derived.ProofKit
import Derived.Lib.SmallJoins
import Derived.OpenShut
namespace Go.Proofs.YtfdbpeplmkfijaaDoor
open Go.ChangeShapes Go.WideShapes Go.ChangeAt Go.RowKit Go.Joins Go.Lib

theorem own : ownKnob Tryd.prog.godebug = none := by kernel_rfl
theorem accept_laid : (Rows.laid_unicode_utf8_acceptRanges : DataW Unit) = acceptData := by kernel_rfl
theorem first_laid : (Rows.laid_unicode_utf8_first : DataW Unit) = firstData := Go.Pinned.utf8First_eq
theorem tabU_of {W : World} (h : laidMetH Tryd.prog [("unicode/utf8.acceptRanges", Rows.laid_unicode_utf8_acceptRanges), ("unicode/utf8.first", Rows.laid_unicode_utf8_first)] W) : TabU W := by
  have h0 : laidMet Tryd.prog [("unicode/utf8.acceptRanges", acceptData), ("unicode/utf8.first", firstData)] W := by
    rw [← accept_laid, ← first_laid]
    exact h
  exact utf8Tabs_of_readsT (U8Types.of196 vlays196) ⟨by kernel_rfl, by kernel_rfl, by kernel_rfl, by kernel_rfl, by kernel_rfl, by kernel_rfl, by kernel_rfl⟩ (Lib.laidMet.reads h0 (.tail _ (.head _))) (Lib.laidMet.reads h0 (.head _))
/-- The block k holds these bytes. -/
def putU8 (w : World) (k : Nat) (zs : List Int) : World :=
  { w with heap := w.heap.modify k fun
      | .cells _ t frozen => .cells (zs.map fun z => Value.int .u8 z).toArray t frozen
      | o => o }
/-- A world for the witness: the settled one, the two tables holding what their initialisers lay. -/
noncomputable def laidWorldU (os : Os) : World :=
  putU8 (putU8 (World.holding Tryd.prog os ⟨#[], #[], []⟩) 0 Lib.firstTab) 1 ((List.range 16).flatMap fun i => [(Lib.accLo i : Int), (Lib.accHi i : Int)])
theorem i64_of_wf {x : Int} (h : (Lit.int .i64 x).wf = true) : I64 x := by
  simp [Lit.wf, IntKind.min, IntKind.max, IntKind.signed, IntKind.bits] at h
  exact ⟨by omega, by omega⟩
theorem i32_of_wf {x : Int} (h : (Lit.int .i32 x).wf = true) : -2147483648 ≤ x ∧ x ≤ 2147483647 := by
  simp [Lit.wf, IntKind.min, IntKind.max, IntKind.signed, IntKind.bits] at h
  exact ⟨by omega, by omega⟩
theorem u16_of_wf {x : Int} (h : (Lit.int .u16 x).wf = true) : ∃ n : Nat, x = (n : Int) ∧ n < 65536 := by
  simp [Lit.wf, IntKind.min, IntKind.max, IntKind.signed, IntKind.bits] at h
  exact ⟨x.toNat, by omega, by omega⟩
end Go.Proofs.YtfdbpeplmkfijaaDoor
