/-
  What a row over ints and days needs: an argument opened and shut again.
-/
import Derived.Test.YtmikbdnjkfdodaaRows
import Derived.Test.YtmikbdnjkfdodaaCc
import Derived.WalkKit
import Derived.ProofKit
import Derived.OpenShut
import Derived.Lib.SmallJoins
namespace Go.Proofs.Ytmikbdnjkfdodaa
open Go.ChangeShapes Go.WideShapes Go.ChangeAt Go.RowKit Go.Joins

theorem own : ownKnob Try.prog.godebug = none := by kernel_rfl
theorem cellsDate : Try.prog.cellsOf 23 = 3 := by kernel_rfl
section
variable {H : Type} {enc : TypeId × Value → H} {w : World} {base : Nat} {spare : Nat → Bool} {held : Bool}
/-- Three numbers of an int. -/
def WfT (y m d : Int) : Prop := (Lit.int .i64 y).wf = true ∧ (Lit.int .i64 m).wf = true ∧ (Lit.int .i64 d).wf = true
abbrev dT (y m d : Int) : DataW H := .agg [.lit (.int .i64 y), .lit (.int .i64 m), .lit (.int .i64 d)]
set_option maxRecDepth 100000 in
theorem open_Date {b0 : Nat} {v : Value} {d : DataW H} {p : List MemPlace} (hv : Value.okWide Try.prog w .any b0 23 v) (h : DataW.Trod enc Try.prog w base spare held 23 v d p) :
    ∃ a b c : Int, v = Dt a b c ∧ d = dT a b c ∧ p = [] ∧ WfT a b c := by
  obtain ⟨c0, c1, c2, y0, y1, y2, m, rfl, rfl, rfl, h0, h1, h2⟩ := open_agg3 Try.underlying23 (by kernel_rfl) cellsDate hv h
  obtain ⟨a, e0, rfl, wa⟩ := DataW.trod_int Try.underlying3 h0
  obtain ⟨b, e1, rfl, wb⟩ := DataW.trod_int Try.underlying3 h1
  obtain ⟨c, e2, rfl, wc⟩ := DataW.trod_int Try.underlying3 h2
  simp at e0 e1 e2
  subst e0 e1 e2
  exact ⟨a, b, c, rfl, rfl, rfl, wa, wb, wc⟩
set_option maxRecDepth 100000 in
theorem shut_Date {a b c : Int} (h : WfT a b c) : DataW.Trod enc Try.prog w base spare held 23 (Dt a b c) (dT a b c) [] :=
  shut_agg3 (y0 := (.lit (.int .i64 a), [])) (y1 := (.lit (.int .i64 b), [])) (y2 := (.lit (.int .i64 c), [])) Try.underlying23 (by kernel_rfl) cellsDate ⟨1, by simp [DataW.trod, Try.underlying3, h.1]⟩ ⟨1, by simp [DataW.trod, Try.underlying3, h.2.1]⟩ ⟨1, by simp [DataW.trod, Try.underlying3, h.2.2]⟩
end
end Go.Proofs.Ytmikbdnjkfdodaa
