/-
  What a row over decimal numbers needs: an argument opened and shut again (a number as it is handed in, one that is not rounded yet, an int, a byte, a bool), the table that the row lists, and a world for the witness.
-/
import Derived.Test.YtkkddflclakphaaDoorCards
import Derived.Test.YtkkddflclakphaaDoorTie
import Derived.Test.YtkkddflclakphaaDoorWid
import Derived.ProofKit
import Derived.OpenShut
import Derived.Deep.DeepHandedRow
import Derived.Lib.LaidTab
import Derived.Lib.SmallJoins
namespace Go.Proofs.YtkkddflclakphaaDoor
open Go.ChangeShapes Go.WideShapes Go.ChangeAt Go.RowKit Go.Joins Go.Deep

theorem own : ownKnob Tryd.prog.godebug = none := by kernel_rfl
theorem gTab : Tryd.prog.globalNamed "casuist/wide.wordTen" = some 0 := by kernel_rfl
theorem gTabType : (Tryd.prog.globals[0]?).map (·.type) = some 89 := by kernel_rfl
theorem cellsTab : Tryd.prog.cellsOf 89 = 20 := by kernel_rfl
theorem cellsWord : Tryd.prog.cellsOf 29 = 1 := by kernel_rfl
theorem cellsU : Tryd.prog.cellsOf 31 = 2 := by kernel_rfl
theorem cellsRaw : Tryd.prog.cellsOf 33 = 4 := by kernel_rfl
theorem cellsWide : Tryd.prog.cellsOf 72 = 7 := by kernel_rfl
theorem cellsB : Tryd.prog.cellsOf 4 = 1 := by kernel_rfl
theorem cellsI : Tryd.prog.cellsOf 3 = 1 := by kernel_rfl

def tens : List Int := [1, 10, 100, 1000, 10000, 100000, 1000000, 10000000, 100000000, 1000000000, 10000000000, 100000000000, 1000000000000, 10000000000000, 100000000000000, 1000000000000000, 10000000000000000, 100000000000000000, 1000000000000000000, 10000000000000000000]
theorem tens_at : ∀ k : Fin 20, tens.getD k.val 0 = ((10 ^ k.val : Nat) : Int) := by decide +kernel

/-- The table's cells hold the powers of ten. -/
theorem tab_of {W : World} (h : laidMetH Tryd.prog [("casuist/wide.wordTen", Rows.laid_casuist_wide_wordTen)] W) : Tab W := by
  have t : Lib.TabIs Tryd.prog W "casuist/wide.wordTen" .u64 tens := Lib.tabIs_of_head (rest := []) gTab gTabType Tryd.underlying89 Tryd.underlying29 cellsWord cellsTab h
  have c : ∀ k : Nat, k < 20 → W.cell? ⟨0, k, none⟩ = some (.int .u64 ((10 ^ k : Nat) : Int)) := fun k hk => by
    rw [t.cell gTab k hk, tens_at ⟨k, hk⟩]
  refine ⟨?_, c⟩
  rcases Nat.eq_zero_or_pos W.heap.size with z | z
  · have := c 0 (by decide)
    rw [World.cell?, Array.getElem?_eq_none (by show W.heap.size ≤ 0; omega)] at this
    cases this
  · exact z

/-- A word's bounds. -/
theorem word_of_wf {x : Int} (h : (Lit.int .u64 x).wf = true) : ∃ n : Nat, x = (n : Int) ∧ n < 18446744073709551616 := by
  simp [Lit.wf, IntKind.min, IntKind.max, IntKind.signed, IntKind.bits] at h
  exact ⟨x.toNat, by omega, by omega⟩
theorem wf_word {n : Nat} (h : n < 18446744073709551616) : (Lit.int .u64 (n : Int)).wf = true := by
  simp [Lit.wf, IntKind.min, IntKind.max, IntKind.signed, IntKind.bits]
  omega
theorem wf_i64 {n : Int} (h : -9223372036854775808 ≤ n) (h' : n ≤ 9223372036854775807) : (Lit.int .i64 n).wf = true := by
  simp [Lit.wf, IntKind.min, IntKind.max, IntKind.signed, IntKind.bits]
  omega

section
variable {H : Type} {enc : TypeId × Value → H} {w : World} {base : Nat} {spare : Nat → Bool} {held : Bool}
/-- Two words, as data. -/
abbrev dU (a b : Nat) : DataW H := .agg [.lit (.int .u64 (a : Int)), .lit (.int .u64 (b : Int))]
abbrev dD (n : Bool) (a b : Nat) (x : Int) : DataW H := .agg [.lit (.bool n), dU a b, .lit (.int .i64 x)]
abbrev dW (n : Bool) (a b c d : Nat) (x : Int) (m : Bool) : DataW H := .agg [.lit (.bool n), dU a b, dU c d, .lit (.int .i64 x), .lit (.bool m)]

set_option maxRecDepth 100000 in
theorem trodU {n : Nat} {c0 c1 : Value} {y : DataW H × List MemPlace} (h : DataW.trod enc Tryd.prog w base spare held n 31 [c0, c1] = some y) :
    ∃ a b : Nat, c0 = .int .u64 (a : Int) ∧ c1 = .int .u64 (b : Int) ∧ y = (dU a b, []) ∧ WW a b := by
  obtain ⟨y0, y1, m, rfl, -, h0, h1⟩ := trod_struct2 Tryd.underlying31 h
  obtain ⟨a, e0, rfl, wa⟩ := DataW.trod_int Tryd.underlying29 h0
  obtain ⟨b, e1, rfl, wb⟩ := DataW.trod_int Tryd.underlying29 h1
  simp [cellsWord] at e0 e1
  subst e0 e1
  obtain ⟨m, rfl, hm⟩ := word_of_wf wa
  obtain ⟨n, rfl, hn⟩ := word_of_wf wb
  exact ⟨m, n, rfl, rfl, rfl, hm, hn⟩
set_option maxRecDepth 100000 in
theorem trodU_mk {a b : Nat} (h : WW a b) : DataW.trod enc Tryd.prog w base spare held 2 31 [.int .u64 (a : Int), .int .u64 (b : Int)] = some (dU a b, []) :=
  trod_struct2_mk (n := 1) (y0 := (.lit (.int .u64 (a : Int)), [])) (y1 := (.lit (.int .u64 (b : Int)), [])) Tryd.underlying31 (by rw [cellsU]; rfl)
    (by simp [DataW.trod, Tryd.underlying29, cellsWord, wf_word h.1]) (by simp [DataW.trod, Tryd.underlying29, cellsWord, wf_word h.2])

set_option maxRecDepth 100000 in
/-- A number as it is handed in, opened. -/
theorem open_Raw {b0 : Nat} {v : Value} {d : DataW H} {p : List MemPlace} (hv : Value.okWide Tryd.prog w .any b0 33 v) (h : DataW.Trod enc Tryd.prog w base spare held 33 v d p) :
    ∃ (n : Bool) (a b : Nat) (x : Int), v = .agg #[.bool n, .int .u64 (a : Int), .int .u64 (b : Int), .int .i64 x] ∧ d = dD n a b x ∧ p = [] ∧ WW a b ∧ -9223372036854775808 ≤ x ∧ x ≤ 9223372036854775807 := by
  obtain ⟨cs, rfl, hsz⟩ := okWide_struct Tryd.underlying33 hv
  obtain ⟨l⟩ := cs
  match l, hsz.trans cellsRaw with
  | [c0, c1, c2, c3], _ =>
    obtain ⟨fuel, hf⟩ := h
    obtain ⟨y0, y1, y2, m, hx, -, h0, h1, h2⟩ := trod_struct3 Tryd.underlying33 hf
    obtain ⟨n, e0, rfl⟩ := DataW.trod_bool Tryd.underlying4 h0
    obtain ⟨x, e2, rfl, wx⟩ := DataW.trod_int Tryd.underlying3 h2
    simp only [Value.cells, cellsU, cellsB, cellsI, List.drop, List.take, List.take_succ_cons, List.drop_succ_cons, List.cons.injEq, and_true] at e0 e2 h1
    subst e0 e2
    obtain ⟨a, b, rfl, rfl, rfl, wab⟩ := trodU h1
    obtain ⟨x1, x2⟩ := bounds_i64 wx
    simp only [Prod.mk.injEq] at hx
    exact ⟨n, a, b, x, rfl, hx.1, hx.2, wab, x1, x2⟩
set_option maxRecDepth 100000 in
/-- A number as it is handed in, shut. -/
theorem shut_Raw {n : Bool} {a b : Nat} {x : Int} (h : WW a b) (x1 : -9223372036854775808 ≤ x) (x2 : x ≤ 9223372036854775807) : DataW.Trod enc Tryd.prog w base spare held 33 (.agg #[.bool n, .int .u64 (a : Int), .int .u64 (b : Int), .int .i64 x]) (dD n a b x) [] :=
  ⟨3, trod_struct3_mk (n := 2) (y0 := (.lit (.bool n), [])) (y1 := (dU a b, [])) (y2 := (.lit (.int .i64 x), [])) Tryd.underlying33 (by rw [cellsRaw]; rfl)
    (by simp [DataW.trod, Tryd.underlying4, cellsB, Value.cells]) (by simp only [cellsU, Value.cells]; exact trodU_mk h) (by simp [DataW.trod, Tryd.underlying3, cellsI, Value.cells, wf_i64 x1 x2])⟩

set_option maxRecDepth 100000 in
/-- A number that is not rounded yet, opened. -/
theorem open_Wide {b0 : Nat} {v : Value} {d : DataW H} {p : List MemPlace} (hv : Value.okWide Tryd.prog w .any b0 72 v) (h : DataW.Trod enc Tryd.prog w base spare held 72 v d p) :
    ∃ (n : Bool) (a b c e : Nat) (x : Int) (m : Bool), v = .agg #[.bool n, .int .u64 (a : Int), .int .u64 (b : Int), .int .u64 (c : Int), .int .u64 (e : Int), .int .i64 x, .bool m] ∧ d = dW n a b c e x m ∧ p = [] ∧ WW a b ∧ WW c e ∧ -9223372036854775808 ≤ x ∧ x ≤ 9223372036854775807 := by
  obtain ⟨cs, rfl, hsz⟩ := okWide_struct Tryd.underlying72 hv
  obtain ⟨l⟩ := cs
  match l, hsz.trans cellsWide with
  | [c0, c1, c2, c3, c4, c5, c6], _ =>
    obtain ⟨fuel, hf⟩ := h
    obtain ⟨xs, k, -, hx, -, hlen, hg⟩ := DataW.trod_struct Tryd.underlying72 hf
    match xs, hlen with
    | [y0, y1, y2, y3, y4], _ =>
      have h0 : DataW.trod enc Tryd.prog w base spare held k 4 [c0] = some y0 := by have := hg 0 _ rfl; simpa [Value.cells, cellsB] using this
      have h1 : DataW.trod enc Tryd.prog w base spare held k 31 [c1, c2] = some y1 := by have := hg 1 _ rfl; simpa [Value.cells, cellsU] using this
      have h2 : DataW.trod enc Tryd.prog w base spare held k 31 [c3, c4] = some y2 := by have := hg 2 _ rfl; simpa [Value.cells, cellsU] using this
      have h3 : DataW.trod enc Tryd.prog w base spare held k 3 [c5] = some y3 := by have := hg 3 _ rfl; simpa [Value.cells, cellsI] using this
      have h4 : DataW.trod enc Tryd.prog w base spare held k 4 [c6] = some y4 := by have := hg 4 _ rfl; simpa [Value.cells, cellsB] using this
      obtain ⟨n, e0, rfl⟩ := DataW.trod_bool Tryd.underlying4 h0
      obtain ⟨x, e3, rfl, wx⟩ := DataW.trod_int Tryd.underlying3 h3
      obtain ⟨m, e4, rfl⟩ := DataW.trod_bool Tryd.underlying4 h4
      simp only [List.cons.injEq, and_true] at e0 e3 e4
      subst e0 e3 e4
      obtain ⟨a, b, rfl, rfl, rfl, wab⟩ := trodU h1
      obtain ⟨c, e, rfl, rfl, rfl, wce⟩ := trodU h2
      obtain ⟨x1, x2⟩ := bounds_i64 wx
      simp only [Prod.mk.injEq] at hx
      exact ⟨n, a, b, c, e, x, m, rfl, hx.1, hx.2, wab, wce, x1, x2⟩
set_option maxRecDepth 100000 in
/-- A number that is not rounded yet, shut. -/
theorem shut_Wide {n m : Bool} {a b c e : Nat} {x : Int} (h : WW a b) (h' : WW c e) (x1 : -9223372036854775808 ≤ x) (x2 : x ≤ 9223372036854775807) :
    DataW.Trod enc Tryd.prog w base spare held 72 (.agg #[.bool n, .int .u64 (a : Int), .int .u64 (b : Int), .int .u64 (c : Int), .int .u64 (e : Int), .int .i64 x, .bool m]) (dW n a b c e x m) [] := by
  have t := trod_struct_mk (enc := enc) (P := Tryd.prog) (w := w) (base := base) (spare := spare) (held := held) (n := 2) (cs := [.bool n, .int .u64 (a : Int), .int .u64 (b : Int), .int .u64 (c : Int), .int .u64 (e : Int), .int .i64 x, .bool m])
    (xs := [(.lit (.bool n), []), (dU a b, []), (dU c e, []), (.lit (.int .i64 x), []), (.lit (.bool m), [])]) Tryd.underlying72 (by rw [cellsWide]; rfl)
  refine ⟨3, t ?_⟩
  have u1 := trodU_mk (enc := enc) (w := w) (base := base) (spare := spare) (held := held) h
  have u2 := trodU_mk (enc := enc) (w := w) (base := base) (spare := spare) (held := held) h'
  simp [cellsU, cellsB, cellsI, u1, u2]
  simp [DataW.trod, Tryd.underlying4, Tryd.underlying3, wf_i64 x1 x2]
end

/-- A world for the witness: the settled one, the table holding what its initialiser lays. -/
noncomputable def laidWorld (os : Os) : World :=
  { World.holding Tryd.prog os ⟨#[], #[], []⟩ with heap := (World.holding Tryd.prog os ⟨#[], #[], []⟩).heap.modify 0 fun
      | .cells _ t frozen => .cells (tens.map fun z => Value.int .u64 z).toArray t frozen
      | o => o }
end Go.Proofs.YtkkddflclakphaaDoor
