/-
  What a row over moments needs: an argument opened and shut again (a moment as it is handed in, a moment, a time).
-/
import Derived.Test.YthgondbiddncpaaDoorRows
import Derived.Test.YthgondbiddncpaaDoorMb
import Derived.WalkKit
import Derived.ProofKit
import Derived.OpenShut
import Derived.Lib.SmallJoins
namespace Go.Proofs.YthgondbiddncpaaDoor
open Go.ChangeShapes Go.WideShapes Go.ChangeAt Go.RowKit Go.Joins

theorem own : ownKnob Tryd.prog.godebug = none := by kernel_rfl
theorem cellsI : Tryd.prog.cellsOf 3 = 1 := by kernel_rfl
theorem cellsB : Tryd.prog.cellsOf 4 = 1 := by kernel_rfl
theorem cellsDate : Tryd.prog.cellsOf 26 = 3 := by kernel_rfl
theorem cellsTime : Tryd.prog.cellsOf 28 = 3 := by kernel_rfl
theorem cellsMo : Tryd.prog.cellsOf 30 = 6 := by kernel_rfl
theorem cellsRw : Tryd.prog.cellsOf 23 = 6 := by kernel_rfl
theorem wf_I64 {x : Int} (h : (Lit.int .i64 x).wf = true) : I64 x := by
  simp only [Lit.wf, Bool.and_eq_true, decide_eq_true_eq] at h
  exact h
section
variable {H : Type} {enc : TypeId × Value → H} {w : World} {base : Nat} {spare : Nat → Bool} {held : Bool}
abbrev Wi (x : Int) : Prop := (Lit.int .i64 x).wf = true
def WfT (y m d : Int) : Prop := Wi y ∧ Wi m ∧ Wi d
def WfM (s o : Int) : Prop := Wi s ∧ Wi o
def WfR (y m d s o : Int) : Prop := Wi y ∧ Wi m ∧ Wi d ∧ Wi s ∧ Wi o
abbrev dT (y m d : Int) : DataW H := .agg [.lit (.int .i64 y), .lit (.int .i64 m), .lit (.int .i64 d)]
abbrev dM (s : Int) (z : Bool) (o : Int) : DataW H := .agg [.lit (.int .i64 s), .lit (.bool z), .lit (.int .i64 o)]
abbrev dN (y m d s : Int) (z : Bool) (o : Int) : DataW H := .agg [dT y m d, dM s z o]
abbrev dR (y m d s o : Int) (z : Bool) : DataW H := .agg [.lit (.int .i64 y), .lit (.int .i64 m), .lit (.int .i64 d), .lit (.int .i64 s), .lit (.int .i64 o), .lit (.bool z)]
set_option maxRecDepth 100000 in
theorem open_Time {b0 : Nat} {v : Value} {d : DataW H} {p : List MemPlace} (hv : Value.okWide Tryd.prog w .any b0 28 v) (h : DataW.Trod enc Tryd.prog w base spare held 28 v d p) :
    ∃ (a : Int) (b : Bool) (c : Int), v = Tm a b c ∧ d = dM a b c ∧ p = [] ∧ WfM a c := by
  obtain ⟨c0, c1, c2, y0, y1, y2, m, rfl, rfl, rfl, h0, h1, h2⟩ := open_agg3 Tryd.underlying28 (by kernel_rfl) cellsTime hv h
  obtain ⟨a, e0, rfl, wa⟩ := DataW.trod_int Tryd.underlying3 h0
  obtain ⟨b, e1, rfl⟩ := DataW.trod_bool Tryd.underlying4 h1
  obtain ⟨c, e2, rfl, wc⟩ := DataW.trod_int Tryd.underlying3 h2
  simp at e0 e1 e2
  subst e0 e1 e2
  exact ⟨a, b, c, rfl, rfl, rfl, wa, wc⟩
set_option maxRecDepth 100000 in
theorem shut_Time {a : Int} {b : Bool} {c : Int} (h : WfM a c) : DataW.Trod enc Tryd.prog w base spare held 28 (Tm a b c) (dM a b c) [] :=
  shut_agg3 (y0 := (.lit (.int .i64 a), [])) (y1 := (.lit (.bool b), [])) (y2 := (.lit (.int .i64 c), [])) Tryd.underlying28 (by kernel_rfl) cellsTime ⟨1, by simp [DataW.trod, Tryd.underlying3, h.1]⟩ ⟨1, by simp [DataW.trod, Tryd.underlying4]⟩ ⟨1, by simp [DataW.trod, Tryd.underlying3, h.2]⟩
set_option maxRecDepth 100000 in
theorem trodT {k : Nat} {c0 c1 c2 : Value} {y : DataW H × List MemPlace} (h : DataW.trod enc Tryd.prog w base spare held k 26 [c0, c1, c2] = some y) :
    ∃ a b c : Int, c0 = .int .i64 a ∧ c1 = .int .i64 b ∧ c2 = .int .i64 c ∧ y = (dT a b c, []) ∧ WfT a b c := by
  obtain ⟨xs, n, -, hx, -, hlen, hg⟩ := DataW.trod_struct Tryd.underlying26 h
  match xs, hlen with
  | [y0, y1, y2], _ =>
    have h0 : DataW.trod enc Tryd.prog w base spare held n 3 [c0] = some y0 := by have := hg 0 _ rfl; simpa [Value.cells, cellsI] using this
    have h1 : DataW.trod enc Tryd.prog w base spare held n 3 [c1] = some y1 := by have := hg 1 _ rfl; simpa [Value.cells, cellsI] using this
    have h2 : DataW.trod enc Tryd.prog w base spare held n 3 [c2] = some y2 := by have := hg 2 _ rfl; simpa [Value.cells, cellsI] using this
    obtain ⟨a, e0, rfl, wa⟩ := DataW.trod_int Tryd.underlying3 h0
    obtain ⟨b, e1, rfl, wb⟩ := DataW.trod_int Tryd.underlying3 h1
    obtain ⟨c, e2, rfl, wc⟩ := DataW.trod_int Tryd.underlying3 h2
    simp only [List.cons.injEq, and_true] at e0 e1 e2
    subst e0 e1 e2
    exact ⟨a, b, c, rfl, rfl, rfl, hx, wa, wb, wc⟩
set_option maxRecDepth 100000 in
theorem trodM {k : Nat} {c0 c1 c2 : Value} {y : DataW H × List MemPlace} (h : DataW.trod enc Tryd.prog w base spare held k 28 [c0, c1, c2] = some y) :
    ∃ (a : Int) (b : Bool) (c : Int), c0 = .int .i64 a ∧ c1 = .bool b ∧ c2 = .int .i64 c ∧ y = (dM a b c, []) ∧ WfM a c := by
  obtain ⟨xs, n, -, hx, -, hlen, hg⟩ := DataW.trod_struct Tryd.underlying28 h
  match xs, hlen with
  | [y0, y1, y2], _ =>
    have h0 : DataW.trod enc Tryd.prog w base spare held n 3 [c0] = some y0 := by have := hg 0 _ rfl; simpa [Value.cells, cellsI] using this
    have h1 : DataW.trod enc Tryd.prog w base spare held n 4 [c1] = some y1 := by have := hg 1 _ rfl; simpa [Value.cells, cellsI, cellsB] using this
    have h2 : DataW.trod enc Tryd.prog w base spare held n 3 [c2] = some y2 := by have := hg 2 _ rfl; simpa [Value.cells, cellsI, cellsB] using this
    obtain ⟨a, e0, rfl, wa⟩ := DataW.trod_int Tryd.underlying3 h0
    obtain ⟨b, e1, rfl⟩ := DataW.trod_bool Tryd.underlying4 h1
    obtain ⟨c, e2, rfl, wc⟩ := DataW.trod_int Tryd.underlying3 h2
    simp only [List.cons.injEq, and_true] at e0 e1 e2
    subst e0 e1 e2
    exact ⟨a, b, c, rfl, rfl, rfl, hx, wa, wc⟩
set_option maxRecDepth 100000 in
theorem trodT_mk {a b c : Int} (h : WfT a b c) : DataW.trod enc Tryd.prog w base spare held 2 26 [.int .i64 a, .int .i64 b, .int .i64 c] = some (dT a b c, []) := by
  have t := trod_struct_mk (enc := enc) (P := Tryd.prog) (w := w) (base := base) (spare := spare) (held := held) (n := 1) (cs := [.int .i64 a, .int .i64 b, .int .i64 c])
    (xs := [(.lit (.int .i64 a), []), (.lit (.int .i64 b), []), (.lit (.int .i64 c), [])]) Tryd.underlying26 (by rw [cellsDate]; rfl)
  refine t ?_
  simp [cellsI]
  simp [DataW.trod, Tryd.underlying3, h.1, h.2.1, h.2.2]
set_option maxRecDepth 100000 in
theorem trodM_mk {a : Int} {b : Bool} {c : Int} (h : WfM a c) : DataW.trod enc Tryd.prog w base spare held 2 28 [.int .i64 a, .bool b, .int .i64 c] = some (dM a b c, []) := by
  have t := trod_struct_mk (enc := enc) (P := Tryd.prog) (w := w) (base := base) (spare := spare) (held := held) (n := 1) (cs := [.int .i64 a, .bool b, .int .i64 c])
    (xs := [(.lit (.int .i64 a), []), (.lit (.bool b), []), (.lit (.int .i64 c), [])]) Tryd.underlying28 (by rw [cellsTime]; rfl)
  refine t ?_
  simp [cellsI, cellsB]
  simp [DataW.trod, Tryd.underlying3, Tryd.underlying4, h.1, h.2]
set_option maxRecDepth 100000 in
theorem open_Moment {b0 : Nat} {v : Value} {d : DataW H} {p : List MemPlace} (hv : Value.okWide Tryd.prog w .any b0 30 v) (h : DataW.Trod enc Tryd.prog w base spare held 30 v d p) :
    ∃ (y m e s : Int) (z : Bool) (o : Int), v = Mo y m e s z o ∧ d = dN y m e s z o ∧ p = [] ∧ WfT y m e ∧ WfM s o := by
  obtain ⟨cs, rfl, hsz⟩ := okWide_struct Tryd.underlying30 hv
  obtain ⟨l⟩ := cs
  match l, hsz.trans cellsMo with
  | [c0, c1, c2, c3, c4, c5], _ =>
    obtain ⟨fuel, hf⟩ := h
    obtain ⟨xs, k, -, hx, -, hlen, hg⟩ := DataW.trod_struct Tryd.underlying30 hf
    match xs, hlen with
    | [y0, y1], _ =>
      have h0 : DataW.trod enc Tryd.prog w base spare held k 26 [c0, c1, c2] = some y0 := by have := hg 0 _ rfl; simpa [Value.cells, cellsDate] using this
      have h1 : DataW.trod enc Tryd.prog w base spare held k 28 [c3, c4, c5] = some y1 := by have := hg 1 _ rfl; simpa [Value.cells, cellsDate, cellsTime] using this
      obtain ⟨a, b, c, rfl, rfl, rfl, rfl, w1⟩ := trodT h0
      obtain ⟨e, f, g, rfl, rfl, rfl, rfl, w2⟩ := trodM h1
      simp only [Prod.mk.injEq] at hx
      exact ⟨a, b, c, e, f, g, rfl, hx.1, hx.2, w1, w2⟩
set_option maxRecDepth 100000 in
theorem shut_Moment {y m e s : Int} {z : Bool} {o : Int} (h : WfT y m e) (h' : WfM s o) : DataW.Trod enc Tryd.prog w base spare held 30 (Mo y m e s z o) (dN y m e s z o) [] := by
  have t := trod_struct_mk (enc := enc) (P := Tryd.prog) (w := w) (base := base) (spare := spare) (held := held) (n := 2) (cs := [.int .i64 y, .int .i64 m, .int .i64 e, .int .i64 s, .bool z, .int .i64 o])
    (xs := [(dT y m e, []), (dM s z o, [])]) Tryd.underlying30 (by rw [cellsMo]; rfl)
  refine ⟨3, t ?_⟩
  have u1 := trodT_mk (enc := enc) (w := w) (base := base) (spare := spare) (held := held) h
  have u2 := trodM_mk (enc := enc) (w := w) (base := base) (spare := spare) (held := held) (b := z) h'
  simp [cellsDate, cellsTime, u1, u2]
set_option maxRecDepth 100000 in
theorem open_Raw {b0 : Nat} {v : Value} {d : DataW H} {p : List MemPlace} (hv : Value.okWide Tryd.prog w .any b0 23 v) (h : DataW.Trod enc Tryd.prog w base spare held 23 v d p) :
    ∃ (y m e s o : Int) (z : Bool), v = Rw y m e s o z ∧ d = dR y m e s o z ∧ p = [] ∧ WfR y m e s o := by
  obtain ⟨cs, rfl, hsz⟩ := okWide_struct Tryd.underlying23 hv
  obtain ⟨l⟩ := cs
  match l, hsz.trans cellsRw with
  | [c0, c1, c2, c3, c4, c5], _ =>
    obtain ⟨fuel, hf⟩ := h
    obtain ⟨xs, k, -, hx, -, hlen, hg⟩ := DataW.trod_struct Tryd.underlying23 hf
    match xs, hlen with
    | [y0, y1, y2, y3, y4, y5], _ =>
      have h0 : DataW.trod enc Tryd.prog w base spare held k 3 [c0] = some y0 := by have := hg 0 _ rfl; simpa [Value.cells, cellsI] using this
      have h1 : DataW.trod enc Tryd.prog w base spare held k 3 [c1] = some y1 := by have := hg 1 _ rfl; simpa [Value.cells, cellsI] using this
      have h2 : DataW.trod enc Tryd.prog w base spare held k 3 [c2] = some y2 := by have := hg 2 _ rfl; simpa [Value.cells, cellsI] using this
      have h3 : DataW.trod enc Tryd.prog w base spare held k 3 [c3] = some y3 := by have := hg 3 _ rfl; simpa [Value.cells, cellsI] using this
      have h4 : DataW.trod enc Tryd.prog w base spare held k 3 [c4] = some y4 := by have := hg 4 _ rfl; simpa [Value.cells, cellsI] using this
      have h5 : DataW.trod enc Tryd.prog w base spare held k 4 [c5] = some y5 := by have := hg 5 _ rfl; simpa [Value.cells, cellsI, cellsB] using this
      obtain ⟨a, e0, rfl, w0⟩ := DataW.trod_int Tryd.underlying3 h0
      obtain ⟨b, e1, rfl, w1⟩ := DataW.trod_int Tryd.underlying3 h1
      obtain ⟨c, e2, rfl, w2⟩ := DataW.trod_int Tryd.underlying3 h2
      obtain ⟨e, e3, rfl, w3⟩ := DataW.trod_int Tryd.underlying3 h3
      obtain ⟨f, e4, rfl, w4⟩ := DataW.trod_int Tryd.underlying3 h4
      obtain ⟨g, e5, rfl⟩ := DataW.trod_bool Tryd.underlying4 h5
      simp only [List.cons.injEq, and_true] at e0 e1 e2 e3 e4 e5
      subst e0 e1 e2 e3 e4 e5
      simp only [Prod.mk.injEq] at hx
      exact ⟨a, b, c, e, f, g, rfl, hx.1, hx.2, w0, w1, w2, w3, w4⟩
set_option maxRecDepth 100000 in
theorem shut_Raw {y m e s o : Int} {z : Bool} (h : WfR y m e s o) : DataW.Trod enc Tryd.prog w base spare held 23 (Rw y m e s o z) (dR y m e s o z) [] := by
  have t := trod_struct_mk (enc := enc) (P := Tryd.prog) (w := w) (base := base) (spare := spare) (held := held) (n := 2) (cs := [.int .i64 y, .int .i64 m, .int .i64 e, .int .i64 s, .int .i64 o, .bool z])
    (xs := [(.lit (.int .i64 y), []), (.lit (.int .i64 m), []), (.lit (.int .i64 e), []), (.lit (.int .i64 s), []), (.lit (.int .i64 o), []), (.lit (.bool z), [])]) Tryd.underlying23 (by rw [cellsRw]; rfl)
  refine ⟨3, t ?_⟩
  simp [cellsI, cellsB]
  simp [DataW.trod, Tryd.underlying3, Tryd.underlying4, h.1, h.2.1, h.2.2.1, h.2.2.2.1, h.2.2.2.2]
end
end Go.Proofs.YthgondbiddncpaaDoor
