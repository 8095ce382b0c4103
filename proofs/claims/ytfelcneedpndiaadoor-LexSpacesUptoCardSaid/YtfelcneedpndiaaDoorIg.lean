/-
  The document's answer of layer 16: digits, number, as contracts of their calls.
-/
import Derived.Test.YtfelcneedpndiaaDoorIf
namespace Go.Proofs.YtfelcneedpndiaaDoor
open Go.RowKit Go.Lib

theorem RowN.sl2 {b : Nat} {W : World} {v : Value} {L : List Nat} (h : RowN b W v L) : ∃ A cap, v = .slice A L.length cap := by
  rcases h.form with ⟨rfl, rfl⟩ | ⟨g, cap, rfl, _⟩
  · exact ⟨_, _, rfl⟩
  · exact ⟨_, _, rfl⟩
theorem RowN.cell2 {b : Nat} {W : World} {A : Option Addr} {n cap : Nat} {L : List Nat} (h : RowN b W (.slice A n cap) L) {k : Nat} (hk : k < L.length) : ∃ g, A = some ⟨g, 0, none⟩ ∧ g < W.heap.size ∧ L.length ≤ cap ∧ cap ≤ maxLen ∧ W.cell? ⟨g, k, none⟩ = some (.int .i32 ((L.getD k 0 : Nat) : Int)) := by
  rcases h.form with ⟨_, e⟩ | ⟨g, cap', e, h1, h2, h3, h4, h5⟩
  · rw [e] at hk; simp at hk
  · injection e with e1 e2 e3
    subst e3
    exact ⟨g, e1, h4, h1, h2, h5 k hk⟩
theorem drop_cons (L : List Nat) (j : Nat) (h : j < L.length) : L.drop j = L.getD j 0 :: L.drop (j + 1) := by
  rw [List.drop_eq_getElem_cons h, List.getD_eq_getElem?_getD, List.getElem?_eq_getElem h]
  rfl
theorem digS_cons (c : Nat) (t : List Nat) : digS (c :: t) = if digR c then digS t else c :: t := by
  unfold digS
  rw [List.dropWhile_cons]
theorem getD_vr {L : List Nat} (hV : Vrs L) (j : Nat) : L.getD j 0 ≤ 1114111 := by
  rcases Nat.lt_or_ge j L.length with h | h
  · rw [List.getD_eq_getElem?_getD, List.getElem?_eq_getElem h]
    have := hV _ (List.getElem_mem h)
    unfold Vr at this
    simp
    omega
  · rw [List.getD_eq_getElem?_getD, List.getElem?_eq_none h]
    simp
/-- A call answers the place at which this stands, and changes nothing. -/
def RetE (L S : List Nat) (k : Nat) (w : World) (e : Ending) (w' : World) : Prop := ∃ j : Nat, e = .returned (.int .i64 (j : Int)) ∧ k ≤ j ∧ j ≤ L.length ∧ L.drop j = S ∧ w = w'
end Go.Proofs.YtfelcneedpndiaaDoor
