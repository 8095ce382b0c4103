/-
  What a row of layer 16 needs, which lists seven variables: that the world holds what the walks read, a world for the witness.
-/
import Derived.Test.YtfelcneedpndiaaDoorCards
import Derived.Test.YtfelcneedpndiaaDoorTie
import Derived.Test.YtfelcneedpndiaaDoorHm
import Derived.Deep.DeepHandedRow
import Derived.Deep.DeepWitnessRowRef
import Derived.Deep.CondSized
import Derived.Lib.LaidTab
import Derived.Lib.LaidIn
import Derived.Lib.LaidU8T
import Derived.LaidLaws
import Derived.PinnedBridge
import Derived.SizedLaws
import Derived.ProofKit
import Derived.Lib.SmallJoins
import Derived.OpenShut
import Derived.Shelf.Vars
namespace Go.Proofs.YtfelcneedpndiaaDoor
open Go.ChangeShapes Go.WideShapes Go.ChangeAt Go.RowKit Go.Joins Go.Lib

theorem own : ownKnob Tryd.prog.godebug = none := by kernel_rfl
theorem accept_laid : (Rows.laid_unicode_utf8_acceptRanges : DataW Unit) = acceptData := by kernel_rfl
theorem first_laid : (Rows.laid_unicode_utf8_first : DataW Unit) = firstData := Go.Pinned.utf8First_eq
/-- The variables that the rows list. -/
abbrev laid16 : List (String × DataW Unit) := [("math/bits.deBruijn32tab", Rows.laid_math_bits_deBruijn32tab), ("math/bits.deBruijn64tab", Rows.laid_math_bits_deBruijn64tab), ("internal/strconv.uint64pow10", Rows.laid_internal_strconv_uint64pow10), ("unicode/utf8.acceptRanges", Rows.laid_unicode_utf8_acceptRanges), ("strconv.ErrRange", Rows.laid_strconv_ErrRange), ("strconv.ErrSyntax", Rows.laid_strconv_ErrSyntax), ("unicode/utf8.first", Rows.laid_unicode_utf8_first)]
theorem tabU_of {W : World} (h : laidMet Tryd.prog laid16 W) : TabU W := by
  have ha := Lib.laidMet.reads h (n := "unicode/utf8.acceptRanges") (d := Rows.laid_unicode_utf8_acceptRanges) (.tail _ (.tail _ (.tail _ (.head _))))
  have hf := Lib.laidMet.reads h (n := "unicode/utf8.first") (d := Rows.laid_unicode_utf8_first) (.tail _ (.tail _ (.tail _ (.tail _ (.tail _ (.tail _ (.head _)))))))
  rw [accept_laid] at ha
  rw [first_laid] at hf
  exact utf8Tabs_of_readsT (U8Types.of196 vlays196) ⟨by kernel_rfl, by kernel_rfl, by kernel_rfl, by kernel_rfl, by kernel_rfl, by kernel_rfl, by kernel_rfl⟩ hf ha
theorem max_of {W : World} (h : W.ShapedOpen Tryd.prog) : ∃ m, W.cell? ⟨2, 0, none⟩ = some (.int .i64 m) :=
  cell_of_shapedOpen_int (zero := #[.int .i64 0]) (t := 3) h (of_decide_eq_true (by kernel_rfl)) (by kernel_rfl) rfl (by kernel_rfl) (by kernel_rfl) Tryd.underlying3
theorem gErr : Tryd.prog.globalNamed "strconv.ErrSyntax" = some 3 := by kernel_rfl
theorem gErrType : (Tryd.prog.globals[3]?).map (·.type) = some 62 := by kernel_rfl
theorem err_of {W : World} (h : laidMet Tryd.prog laid16 W) : ∃ ev, W.cell? ⟨3, 0, none⟩ = some ev ∧ (ev = .nilIface ∨ ∃ te pe, ev = .iface te pe) := by
  obtain ⟨g, t, cs, fuel, p, h1, h2, h3, h4⟩ := Lib.laidMet.reads h (n := "strconv.ErrSyntax") (d := Rows.laid_strconv_ErrSyntax) (.tail _ (.tail _ (.tail _ (.tail _ (.tail _ (.head _))))))
  obtain rfl : g = 3 := Option.some.inj (h1.symm.trans gErr)
  obtain rfl : t = 62 := Option.some.inj (h2.symm.trans gErrType)
  unfold Rows.laid_strconv_ErrSyntax at h4
  obtain ⟨fuel', u, v, e, -, -⟩ := iface_of_trod Tryd.underlying62 h4
  have hc := World.var?_cell gErr h3 0
  have e' : cs = #[.iface u v] := by cases cs; simpa using e
  rw [e'] at hc
  exact ⟨.iface u v, by simpa using hc, .inr ⟨u, v, rfl⟩⟩
theorem tab16_of {W : World} (h : laidMet Tryd.prog laid16 W) (hs : W.ShapedOpen Tryd.prog) : Tab16 W := ⟨tabU_of h, max_of hs, err_of h⟩
/-- The block k holds these cells. -/
def putCs (w : World) (k : Nat) (cs : Array Value) : World :=
  { w with heap := w.heap.modify k fun
      | .cells _ t frozen => .cells cs t frozen
      | o => o }
def tab32L : List Int := [0, 1, 28, 2, 29, 14, 24, 3, 30, 22, 20, 15, 25, 17, 4, 8, 31, 27, 13, 23, 21, 19, 16, 7, 26, 12, 18, 6, 11, 5, 10, 9]
def tab64L : List Int := [0, 1, 56, 2, 57, 49, 28, 3, 61, 58, 42, 50, 38, 29, 17, 4, 62, 47, 59, 36, 45, 43, 51, 22, 53, 39, 33, 30, 24, 18, 12, 5, 63, 55, 48, 27, 60, 41, 37, 16, 46, 35, 44, 21, 52, 32, 23, 11, 54, 26, 40, 15, 34, 20, 31, 10, 25, 14, 19, 9, 13, 8, 7, 6]
def tab10L : List Int := [1, 10, 100, 1000, 10000, 100000, 1000000, 10000000, 100000000, 1000000000, 10000000000, 100000000000, 1000000000000, 10000000000000, 100000000000000, 1000000000000000, 10000000000000000, 100000000000000000, 1000000000000000000, 10000000000000000000]
/-- A world for the witness: the settled one with two blocks more (the two errors), the seven variables holding what their initialisers lay. -/
noncomputable def laidWorld16 (os : Os) : World :=
  let N := (World.settled Tryd.prog os).heap.size
  let w0 := World.holding Tryd.prog os ⟨#[.cells #[.string ⟨#[118, 97, 108, 117, 101, 32, 111, 117, 116, 32, 111, 102, 32, 114, 97, 110, 103, 101]⟩] 114, .cells #[.string ⟨#[105, 110, 118, 97, 108, 105, 100, 32, 115, 121, 110, 116, 97, 120]⟩] 114], #[], []⟩
  putCs (putCs (putCs (putCs (putCs (putCs (putCs w0 4 #[.iface 112 (.pointer (some ⟨N, 0, none⟩))]) 3 #[.iface 112 (.pointer (some ⟨N + 1, 0, none⟩))]) 6 (tab32L.map fun z => Value.int .u8 z).toArray) 7 (tab64L.map fun z => Value.int .u8 z).toArray) 5 (tab10L.map fun z => Value.int .u64 z).toArray) 0 (Lib.firstTab.map fun z => Value.int .u8 z).toArray) 1 ((List.range 16).flatMap fun i => [Value.int .u8 (Lib.accLo i), Value.int .u8 (Lib.accHi i)]).toArray
theorem u8_of_wf {x : Int} (h : (Lit.int .u8 x).wf = true) : ∃ n : Nat, x = (n : Int) ∧ n < 256 := by
  simp [Lit.wf, IntKind.min, IntKind.max, IntKind.signed, IntKind.bits] at h
  exact ⟨x.toNat, by omega, by omega⟩
end Go.Proofs.YtfelcneedpndiaaDoor
