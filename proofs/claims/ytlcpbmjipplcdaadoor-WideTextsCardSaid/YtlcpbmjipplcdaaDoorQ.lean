/-
  What a row over numbers of two words needs: an argument opened and shut again, the table that the row lists, and a world for the witness.
-/
import Derived.Test.YtlcpbmjipplcdaaDoorCards
import Derived.Test.YtlcpbmjipplcdaaDoorTie
import Derived.Test.YtlcpbmjipplcdaaDoorN
import Derived.ProofKit
import Derived.OpenShut
import Derived.Deep.DeepHandedRow
import Derived.Lib.LaidTab
import Derived.Lib.SmallJoins
namespace Go.Proofs.YtlcpbmjipplcdaaDoor
open Go.ChangeShapes Go.WideShapes Go.ChangeAt Go.RowKit Go.Joins

theorem own : ownKnob Tryd.prog.godebug = none := by kernel_rfl
theorem gTab : Tryd.prog.globalNamed "casuist/wide.wordTen" = some 0 := by kernel_rfl
theorem gTabType : (Tryd.prog.globals[0]?).map (·.type) = some 97 := by kernel_rfl
theorem cellsTab : Tryd.prog.cellsOf 97 = 20 := by kernel_rfl
theorem cellsWord : Tryd.prog.cellsOf 22 = 1 := by kernel_rfl
theorem cellsU : Tryd.prog.cellsOf 24 = 2 := by kernel_rfl

def tens : List Int := [1, 10, 100, 1000, 10000, 100000, 1000000, 10000000, 100000000, 1000000000, 10000000000, 100000000000, 1000000000000, 10000000000000, 100000000000000, 1000000000000000, 10000000000000000, 100000000000000000, 1000000000000000000, 10000000000000000000]
theorem tens_at : ∀ k : Fin 20, tens.getD k.val 0 = ((10 ^ k.val : Nat) : Int) := by decide +kernel

/-- The table's cells hold the powers of ten. -/
theorem tab_of {W : World} (h : laidMetH Tryd.prog [("casuist/wide.wordTen", Rows.laid_casuist_wide_wordTen)] W) : Tab W := by
  have t : Lib.TabIs Tryd.prog W "casuist/wide.wordTen" .u64 tens := Lib.tabIs_of_head (rest := []) gTab gTabType Tryd.underlying97 Tryd.underlying22 cellsWord cellsTab h
  have c : ∀ k : Nat, k < 20 → W.cell? ⟨0, k, none⟩ = some (.int .u64 ((10 ^ k : Nat) : Int)) := fun k hk => by
    rw [t.cell gTab k hk, tens_at ⟨k, hk⟩]
  refine ⟨?_, c⟩
  rcases Nat.eq_zero_or_pos W.heap.size with z | z
  · have := c 0 (by decide)
    rw [World.cell?, Array.getElem?_eq_none (by show W.heap.size ≤ 0; omega)] at this
    cases this
  · exact z

/-- A word's bounds. -/
theorem word_of_wf {x : Int} (h : (Lit.int .u64 x).wf = true) : ∃ n : Nat, x = (n : Int) ∧ n < 18446744073709551616 := by
  simp [Lit.wf, IntKind.min, IntKind.max, IntKind.signed, IntKind.bits] at h
  exact ⟨x.toNat, by omega, by omega⟩

section
variable {H : Type} {enc : TypeId × Value → H} {w : World} {base : Nat} {spare : Nat → Bool} {held : Bool}
set_option maxRecDepth 100000 in
/-- A number of two words, opened. -/
theorem open_U {b0 : Nat} {v : Value} {d : DataW H} {p : List MemPlace} (hv : Value.okWide Tryd.prog w .any b0 24 v) (h : DataW.Trod enc Tryd.prog w base spare held 24 v d p) :
    ∃ a b : Nat, v = U a b ∧ d = .agg [.lit (.int .u64 (a : Int)), .lit (.int .u64 (b : Int))] ∧ p = [] ∧ WW a b := by
  obtain ⟨c0, c1, y0, y1, m, rfl, rfl, rfl, hy0, hy1⟩ := open_agg2 Tryd.underlying24 (by kernel_rfl) cellsU hv h
  obtain ⟨a, e0, rfl, wa⟩ := DataW.trod_int Tryd.underlying22 hy0
  obtain ⟨b, e1, rfl, wb⟩ := DataW.trod_int Tryd.underlying22 hy1
  simp at e0 e1
  subst e0 e1
  obtain ⟨m, rfl, hm⟩ := word_of_wf wa
  obtain ⟨n, rfl, hn⟩ := word_of_wf wb
  exact ⟨m, n, rfl, rfl, rfl, hm, hn⟩
theorem wf_word {n : Nat} (h : n < 18446744073709551616) : (Lit.int .u64 (n : Int)).wf = true := by
  simp [Lit.wf, IntKind.min, IntKind.max, IntKind.signed, IntKind.bits]
  omega
set_option maxRecDepth 100000 in
/-- A number of two words, shut. -/
theorem shut_U {a b : Nat} (h : WW a b) : DataW.Trod enc Tryd.prog w base spare held 24 (U a b) (.agg [.lit (.int .u64 (a : Int)), .lit (.int .u64 (b : Int))]) [] :=
  shut_agg2 (y0 := (.lit (.int .u64 (a : Int)), [])) (y1 := (.lit (.int .u64 (b : Int)), [])) Tryd.underlying24 (by kernel_rfl) cellsU ⟨1, by simp [DataW.trod, Tryd.underlying22, wf_word h.1]⟩ ⟨1, by simp [DataW.trod, Tryd.underlying22, wf_word h.2]⟩
end

/-- A world for the witness: the settled one, the table holding what its initialiser lays. -/
noncomputable def laidWorld (os : Os) : World :=
  { World.holding Tryd.prog os ⟨#[], #[], []⟩ with heap := (World.holding Tryd.prog os ⟨#[], #[], []⟩).heap.modify 0 fun
      | .cells _ t frozen => .cells (tens.map fun z => Value.int .u64 z).toArray t frozen
      | o => o }
end Go.Proofs.YtlcpbmjipplcdaaDoor
