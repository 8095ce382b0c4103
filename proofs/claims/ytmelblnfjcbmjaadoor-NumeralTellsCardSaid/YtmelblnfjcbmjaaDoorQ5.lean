/-
  What a row of layer 5 needs, which lists four tables: the tables that the walk reads, and a world for the witness.
-/
import Derived.Test.YtmelblnfjcbmjaaDoorQd
import Derived.Test.YtmelblnfjcbmjaaDoorFu
namespace Go.Proofs.YtmelblnfjcbmjaaDoor
open Go.ChangeShapes Go.WideShapes Go.ChangeAt Go.RowKit Go.Joins

theorem laid_tail {P : Program} {W : World} {x : String × DataW Unit} {r : List (String × DataW Unit)} (h : laidMet P (x :: r) W) : laidMet P r W := by
  obtain ⟨n, d⟩ := x
  obtain ⟨ps, ⟨g, t, cs, fuel, p, q, _, _, _, _, hq, rfl⟩, hn, hm⟩ := h
  refine ⟨q, hq, (List.nodup_append.1 hn).2.1, fun b off hb => hm b off ?_⟩
  exact List.mem_append.2 (.inr hb)

theorem gTabType3 : (Tryd.prog.globals[3]?).map (·.type) = some 102 := by kernel_rfl

theorem tabs_of {W : World} (h : laidMetH Tryd.prog [("math/bits.deBruijn32tab", Rows.laid_math_bits_deBruijn32tab), ("math/bits.deBruijn64tab", Rows.laid_math_bits_deBruijn64tab), ("internal/strconv.uint64pow10", Rows.laid_internal_strconv_uint64pow10), ("casuist/wide.wordTen", Rows.laid_casuist_wide_wordTen)] W) : Tab W ∧ Tab2 W := by
  have h0 : laidMet Tryd.prog [("math/bits.deBruijn32tab", Rows.laid_math_bits_deBruijn32tab), ("math/bits.deBruijn64tab", Rows.laid_math_bits_deBruijn64tab), ("internal/strconv.uint64pow10", Rows.laid_internal_strconv_uint64pow10), ("casuist/wide.wordTen", Rows.laid_casuist_wide_wordTen)] W := h
  have h1 := laid_tail (laid_tail h0)
  have h2 := laid_tail h1
  exact ⟨tab_of h2, Lib.tabIs_of_head (zs := Lib.pow10Tab) (rest := [("casuist/wide.wordTen", Rows.laid_casuist_wide_wordTen)]) gTab2 gTabType3 Tryd.underlying102 Tryd.underlying22 cellsWord cellsTab h1⟩

def db32 : List Int := [0, 1, 28, 2, 29, 14, 24, 3, 30, 22, 20, 15, 25, 17, 4, 8, 31, 27, 13, 23, 21, 19, 16, 7, 26, 12, 18, 6, 11, 5, 10, 9]
def db64 : List Int := [0, 1, 56, 2, 57, 49, 28, 3, 61, 58, 42, 50, 38, 29, 17, 4, 62, 47, 59, 36, 45, 43, 51, 22, 53, 39, 33, 30, 24, 18, 12, 5, 63, 55, 48, 27, 60, 41, 37, 16, 46, 35, 44, 21, 52, 32, 23, 11, 54, 26, 40, 15, 34, 20, 31, 10, 25, 14, 19, 9, 13, 8, 7, 6]

/-- The block k holds these integers. -/
def putTab (w : World) (k : Nat) (c : IntKind) (zs : List Int) : World :=
  { w with heap := w.heap.modify k fun
      | .cells _ t frozen => .cells (zs.map fun z => Value.int c z).toArray t frozen
      | o => o }
/-- A world for the witness: the settled one, the four tables holding what their initialisers lay. -/
noncomputable def laidWorld4 (os : Os) : World :=
  putTab (putTab (putTab (putTab (World.holding Tryd.prog os ⟨#[], #[], []⟩) 0 .u64 tens) 3 .u64 tens) 5 .u8 db32) 6 .u8 db64
end Go.Proofs.YtmelblnfjcbmjaaDoor
