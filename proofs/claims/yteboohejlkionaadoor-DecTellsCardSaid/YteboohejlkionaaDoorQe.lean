/-
  A number of two words, as a row's argument: opened and shut again.
-/
import Derived.Test.YteboohejlkionaaDoorQd
namespace Go.Proofs.YteboohejlkionaaDoor
open Go.ChangeShapes Go.WideShapes Go.ChangeAt Go.RowKit Go.Joins Go.Deep
section
variable {H : Type} {enc : TypeId × Value → H} {w : World} {base : Nat} {spare : Nat → Bool} {held : Bool}
set_option maxRecDepth 100000 in
theorem open_U1 {b0 : Nat} {v : Value} {d : DataW H} {p : List MemPlace} (hv : Value.okWide Tryd.prog w .any b0 24 v) (h : DataW.Trod enc Tryd.prog w base spare held 24 v d p) :
    ∃ a b : Nat, v = .agg #[.int .u64 (a : Int), .int .u64 (b : Int)] ∧ d = dU a b ∧ p = [] ∧ WW a b := by
  obtain ⟨cs, rfl, hsz⟩ := okWide_struct Tryd.underlying24 hv
  obtain ⟨l⟩ := cs
  match l, hsz.trans cellsU with
  | [c0, c1], _ =>
    obtain ⟨fuel, hf⟩ := h
    obtain ⟨a, b, rfl, rfl, hy, k⟩ := trodU hf
    simp only [Prod.mk.injEq] at hy
    exact ⟨a, b, rfl, hy.1, hy.2, k⟩
set_option maxRecDepth 100000 in
theorem shut_U1 {a b : Nat} (h : WW a b) : DataW.Trod enc Tryd.prog w base spare held 24 (.agg #[.int .u64 (a : Int), .int .u64 (b : Int)]) (dU a b) [] := ⟨2, trodU_mk h⟩
end
end Go.Proofs.YteboohejlkionaaDoor
