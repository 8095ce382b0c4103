/-
  What a row of layer 9 needs, which lists three tables: the table that the walk reads, a world for the witness; a day opened and shut.
-/
import Derived.Test.YthgondbiddncpaaDoorCards
import Derived.Test.YthgondbiddncpaaDoorTie
import Derived.Test.YthgondbiddncpaaDoorQm
import Derived.Test.YthgondbiddncpaaDoorY0
import Derived.Deep.DeepHandedRow
import Derived.Lib.LaidTab
import Derived.SizedLaws
namespace Go.Proofs.YthgondbiddncpaaDoor
open Go.ChangeShapes Go.WideShapes Go.ChangeAt Go.RowKit Go.Joins

theorem cellsTab : Tryd.prog.cellsOf 124 = 20 := by kernel_rfl
theorem cellsWord : Tryd.prog.cellsOf 80 = 1 := by kernel_rfl
def tens : List Int := [1, 10, 100, 1000, 10000, 100000, 1000000, 10000000, 100000000, 1000000000, 10000000000, 100000000000, 1000000000000, 10000000000000, 100000000000000, 1000000000000000, 10000000000000000, 100000000000000000, 1000000000000000000, 10000000000000000000]
theorem laid_tail {P : Program} {W : World} {x : String × DataW Unit} {r : List (String × DataW Unit)} (h : laidMet P (x :: r) W) : laidMet P r W := by
  obtain ⟨n, d⟩ := x
  obtain ⟨ps, ⟨g, t, cs, fuel, p, q, _, _, _, _, hq, rfl⟩, hn, hm⟩ := h
  refine ⟨q, hq, (List.nodup_append.1 hn).2.1, fun b off hb => hm b off ?_⟩
  exact List.mem_append.2 (.inr hb)
theorem gTabType3 : (Tryd.prog.globals[1]?).map (·.type) = some 124 := by kernel_rfl
theorem tabs_of {W : World} (h : laidMetH Tryd.prog [("math/bits.deBruijn32tab", Rows.laid_math_bits_deBruijn32tab), ("math/bits.deBruijn64tab", Rows.laid_math_bits_deBruijn64tab), ("internal/strconv.uint64pow10", Rows.laid_internal_strconv_uint64pow10)] W) : Tab2 W := by
  have h0 : laidMet Tryd.prog [("math/bits.deBruijn32tab", Rows.laid_math_bits_deBruijn32tab), ("math/bits.deBruijn64tab", Rows.laid_math_bits_deBruijn64tab), ("internal/strconv.uint64pow10", Rows.laid_internal_strconv_uint64pow10)] W := h
  have h1 := laid_tail (laid_tail h0)
  exact Lib.tabIs_of_head (zs := Lib.pow10Tab) (rest := []) gTab2 gTabType3 Tryd.underlying124 Tryd.underlying80 cellsWord cellsTab h1
def db32 : List Int := [0, 1, 28, 2, 29, 14, 24, 3, 30, 22, 20, 15, 25, 17, 4, 8, 31, 27, 13, 23, 21, 19, 16, 7, 26, 12, 18, 6, 11, 5, 10, 9]
def db64 : List Int := [0, 1, 56, 2, 57, 49, 28, 3, 61, 58, 42, 50, 38, 29, 17, 4, 62, 47, 59, 36, 45, 43, 51, 22, 53, 39, 33, 30, 24, 18, 12, 5, 63, 55, 48, 27, 60, 41, 37, 16, 46, 35, 44, 21, 52, 32, 23, 11, 54, 26, 40, 15, 34, 20, 31, 10, 25, 14, 19, 9, 13, 8, 7, 6]
/-- The block k holds these integers. -/
def putTab (w : World) (k : Nat) (c : IntKind) (zs : List Int) : World :=
  { w with heap := w.heap.modify k fun
      | .cells _ t frozen => .cells (zs.map fun z => Value.int c z).toArray t frozen
      | o => o }
/-- A world for the witness: the settled one, the three tables holding what their initialisers lay. -/
noncomputable def laidWorld3 (os : Os) : World :=
  putTab (putTab (putTab (World.holding Tryd.prog os ⟨#[], #[], []⟩) 1 .u64 tens) 2 .u8 db32) 3 .u8 db64
section
variable {H : Type} {enc : TypeId × Value → H} {w : World} {base : Nat} {spare : Nat → Bool} {held : Bool}
set_option maxRecDepth 100000 in
theorem open_Date {b0 : Nat} {v : Value} {d : DataW H} {p : List MemPlace} (hv : Value.okWide Tryd.prog w .any b0 26 v) (h : DataW.Trod enc Tryd.prog w base spare held 26 v d p) :
    ∃ a b c : Int, v = Dt a b c ∧ d = dT a b c ∧ p = [] ∧ WfT a b c := by
  obtain ⟨c0, c1, c2, y0, y1, y2, m, rfl, rfl, rfl, h0, h1, h2⟩ := open_agg3 Tryd.underlying26 (by kernel_rfl) cellsDate hv h
  obtain ⟨a, e0, rfl, wa⟩ := DataW.trod_int Tryd.underlying3 h0
  obtain ⟨b, e1, rfl, wb⟩ := DataW.trod_int Tryd.underlying3 h1
  obtain ⟨c, e2, rfl, wc⟩ := DataW.trod_int Tryd.underlying3 h2
  simp at e0 e1 e2
  subst e0 e1 e2
  exact ⟨a, b, c, rfl, rfl, rfl, wa, wb, wc⟩
set_option maxRecDepth 100000 in
theorem shut_Date {a b c : Int} (h : WfT a b c) : DataW.Trod enc Tryd.prog w base spare held 26 (Dt a b c) (dT a b c) [] :=
  shut_agg3 (y0 := (.lit (.int .i64 a), [])) (y1 := (.lit (.int .i64 b), [])) (y2 := (.lit (.int .i64 c), [])) Tryd.underlying26 (by kernel_rfl) cellsDate ⟨1, by simp [DataW.trod, Tryd.underlying3, h.1]⟩ ⟨1, by simp [DataW.trod, Tryd.underlying3, h.2.1]⟩ ⟨1, by simp [DataW.trod, Tryd.underlying3, h.2.2]⟩
end
end Go.Proofs.YthgondbiddncpaaDoor
