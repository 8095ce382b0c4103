/-
  What lex.Tokens is to answer (layer 16): a source's tokens, where they stand in bytes.
-/
import Derived.Test.YtfelcneedpndiaaDoorIxp
import Derived.Test.YtfelcneedpndiaaDoorIe
namespace Go.Proofs.YtfelcneedpndiaaDoor
open Go.RowKit Go.Lib

/-- A source's tokens, if it is UTF-8. -/
def lexS (s : ByteArray) : Option (List (Nat × List Nat × Nat)) := if validD s.data.toList = true then tokS (rnS s) else none
/-- These tokens of a source lie in a slice. -/
def LexAt (w : World) (v : Value) (L : List Nat) (ts : List (Nat × List Nat × Nat)) : Prop :=
  ∃ A cap, v = .slice A ts.length cap ∧ ts.length ≤ cap ∧ cap ≤ maxLen ∧ ∀ i t, ts[i]? = some t → ∃ g o, A = some ⟨g, o, none⟩ ∧ g < w.heap.size ∧
    w.cell? ⟨g, o + i * 3, none⟩ = some (.int .i64 (t.1 : Int)) ∧ w.cell? ⟨g, o + i * 3 + 1, none⟩ = some (.string ⟨(enc t.2.1).toArray⟩) ∧ w.cell? ⟨g, o + i * 3 + 2, none⟩ = some (.int .i64 ((posB L t.2.2 : Nat) : Int))
theorem LexAt.below {w w1 : World} {v : Value} {L : List Nat} {ts : List (Nat × List Nat × Nat)} (h : LexAt w v L ts) (hb : Below w.heap.size w w1) : LexAt w1 v L ts := by
  obtain ⟨A, cap, e, c1, c2, f⟩ := h
  refine ⟨A, cap, e, c1, c2, fun i t hi => ?_⟩
  obtain ⟨g, o, e1, lt, x0, x1, x2⟩ := f i t hi
  have k := (bcell hb).1
  exact ⟨g, o, e1, Nat.lt_of_lt_of_le lt hb.size, (k _ _ lt).trans x0, (k _ _ lt).trans x1, (k _ _ lt).trans x2⟩
theorem LexAt.sl {w : World} {v : Value} {L : List Nat} {ts : List (Nat × List Nat × Nat)} (h : LexAt w v L ts) : ∃ A cap, v = .slice A ts.length cap ∧ ts.length ≤ cap ∧ cap ≤ 9223372036854775807 := by
  obtain ⟨A, cap, e, c1, c2, f⟩ := h
  exact ⟨A, cap, e, c1, c2⟩
theorem LexAt.tok {w : World} {A : Option Addr} {n cap : Nat} {L : List Nat} {ts : List (Nat × List Nat × Nat)} (h : LexAt w (.slice A n cap) L ts) (i : Nat) (t : Nat × List Nat × Nat) (hi : ts[i]? = some t) : ∃ g o, A = some ⟨g, o, none⟩ ∧ g < w.heap.size ∧
    w.cell? ⟨g, o + i * 3, none⟩ = some (.int .i64 (t.1 : Int)) ∧ w.cell? ⟨g, o + i * 3 + 1, none⟩ = some (.string ⟨(enc t.2.1).toArray⟩) ∧ w.cell? ⟨g, o + i * 3 + 2, none⟩ = some (.int .i64 ((posB L t.2.2 : Nat) : Int)) := by
  obtain ⟨A', cap', e, c1, c2, f⟩ := h
  injection e with e1 e2 e3
  subst e1
  exact f i t hi
/-- .. where there is one. -/
theorem LexAt.opened {w : World} {v : Value} {L : List Nat} {t0 : Nat × List Nat × Nat} {ts : List (Nat × List Nat × Nat)} (h : LexAt w v L (t0 :: ts)) : ∃ g o cap, v = .slice (some ⟨g, o, none⟩) (ts.length + 1) cap ∧ ts.length + 1 ≤ cap ∧ cap ≤ 9223372036854775807 ∧ g < w.heap.size ∧ ∀ i t, (t0 :: ts)[i]? = some t →
    w.cell? ⟨g, o + i * 3, none⟩ = some (.int .i64 (t.1 : Int)) ∧ w.cell? ⟨g, o + i * 3 + 1, none⟩ = some (.string ⟨(enc t.2.1).toArray⟩) ∧ w.cell? ⟨g, o + i * 3 + 2, none⟩ = some (.int .i64 ((posB L t.2.2 : Nat) : Int)) := by
  obtain ⟨A, cap, e, c1, c2, f⟩ := h
  obtain ⟨g, o, rfl, lt, -⟩ := f 0 t0 rfl
  refine ⟨g, o, cap, e, c1, c2, lt, fun i t hi => ?_⟩
  obtain ⟨g', o', e1, -, x⟩ := f i t hi
  injection e1 with e1
  injection e1 with e1 e2
  subst e1 e2
  exact x
/-- What lex.Tokens answers. -/
def RetLex (s : ByteArray) (w : World) (e : Ending) (w' : World) : Prop :=
  ∃ (v : Value) (ok : Bool), e = .returned (.tuple #[v, .bool ok]) ∧ Below w.heap.size w w' ∧ (match lexS s with | none => ok = false ∧ v = .slice none 0 0 | some ts => ok = true ∧ LexAt w' v (rnS s) ts)
theorem retlex_yes {s : ByteArray} {ts : List (Nat × List Nat × Nat)} (ho : lexS s = some ts) {w : World} {e : Ending} {w' : World} (h : RetLex s w e w') : ∃ v, e = .returned (.tuple #[v, .bool true]) ∧ Below w.heap.size w w' ∧ LexAt w' v (rnS s) ts := by
  obtain ⟨v, ok, rfl, b, q⟩ := h
  rw [ho] at q
  obtain ⟨rfl, q⟩ := q
  exact ⟨v, rfl, b, q⟩
theorem retlex_no {s : ByteArray} (ho : lexS s = none) {w : World} {e : Ending} {w' : World} (h : RetLex s w e w') : Ret (.tuple #[.slice none 0 0, .bool false]) w e w' := by
  obtain ⟨v, ok, rfl, b, q⟩ := h
  rw [ho] at q
  obtain ⟨rfl, rfl⟩ := q
  exact ⟨rfl, b⟩
end Go.Proofs.YtfelcneedpndiaaDoor
