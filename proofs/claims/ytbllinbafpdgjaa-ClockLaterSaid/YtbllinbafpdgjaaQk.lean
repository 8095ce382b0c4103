/-
  What a row over ints and times needs: an argument opened and shut again.
-/
import Derived.Test.YtbllinbafpdgjaaRows
import Derived.Test.YtbllinbafpdgjaaKa
import Derived.WalkKit
import Derived.ProofKit
import Derived.OpenShut
import Derived.Lib.SmallJoins
namespace Go.Proofs.Ytbllinbafpdgjaa
open Go.ChangeShapes Go.WideShapes Go.ChangeAt Go.RowKit Go.Joins

theorem own : ownKnob Try.prog.godebug = none := by kernel_rfl
theorem cellsTime : Try.prog.cellsOf 23 = 3 := by kernel_rfl
theorem wf_I64 {x : Int} (h : (Lit.int .i64 x).wf = true) : I64 x := by
  simp only [Lit.wf, Bool.and_eq_true, decide_eq_true_eq] at h
  exact h
section
variable {H : Type} {enc : TypeId × Value → H} {w : World} {base : Nat} {spare : Nat → Bool} {held : Bool}
/-- Two numbers of an int. -/
def WfM (s o : Int) : Prop := (Lit.int .i64 s).wf = true ∧ (Lit.int .i64 o).wf = true
abbrev dM (s : Int) (z : Bool) (o : Int) : DataW H := .agg [.lit (.int .i64 s), .lit (.bool z), .lit (.int .i64 o)]
set_option maxRecDepth 100000 in
theorem open_Time {b0 : Nat} {v : Value} {d : DataW H} {p : List MemPlace} (hv : Value.okWide Try.prog w .any b0 23 v) (h : DataW.Trod enc Try.prog w base spare held 23 v d p) :
    ∃ (a : Int) (b : Bool) (c : Int), v = Tm a b c ∧ d = dM a b c ∧ p = [] ∧ WfM a c := by
  obtain ⟨c0, c1, c2, y0, y1, y2, m, rfl, rfl, rfl, h0, h1, h2⟩ := open_agg3 Try.underlying23 (by kernel_rfl) cellsTime hv h
  obtain ⟨a, e0, rfl, wa⟩ := DataW.trod_int Try.underlying3 h0
  obtain ⟨b, e1, rfl⟩ := DataW.trod_bool Try.underlying4 h1
  obtain ⟨c, e2, rfl, wc⟩ := DataW.trod_int Try.underlying3 h2
  simp at e0 e1 e2
  subst e0 e1 e2
  exact ⟨a, b, c, rfl, rfl, rfl, wa, wc⟩
set_option maxRecDepth 100000 in
theorem shut_Time {a : Int} {b : Bool} {c : Int} (h : WfM a c) : DataW.Trod enc Try.prog w base spare held 23 (Tm a b c) (dM a b c) [] :=
  shut_agg3 (y0 := (.lit (.int .i64 a), [])) (y1 := (.lit (.bool b), [])) (y2 := (.lit (.int .i64 c), [])) Try.underlying23 (by kernel_rfl) cellsTime ⟨1, by simp [DataW.trod, Try.underlying3, h.1]⟩ ⟨1, by simp [DataW.trod, Try.underlying4]⟩ ⟨1, by simp [DataW.trod, Try.underlying3, h.2]⟩
end
end Go.Proofs.Ytbllinbafpdgjaa
