/-
  The document's answer of layer 15: Sub, as a contract of its call.
-/
import Derived.Test.YtfelcneedpndiaaDoorIc
namespace Go.Proofs.YtfelcneedpndiaaDoor
open Go.RowKit Go.Lib

/-- The runes from a place on (counted from 1, or from -1 back), so many. -/
def subL (L : List Nat) (f n : Int) : Option (List Nat) :=
  let k := if f < 0 then (L.length : Int) + f else f - 1
  if f = 0 ∨ k < 0 ∨ (L.length : Int) ≤ k then none else some (if n < 0 then L.drop k.toNat else (L.drop k.toNat).take n.toNat)
def RetSub (o : Option (List Nat)) (w : World) (e : Ending) (w' : World) : Prop :=
  (match o with
   | none => e = .returned (.tuple #[.string ⟨#[]⟩, .bool false])
   | some M => e = .returned (.tuple #[.string ⟨(enc M).toArray⟩, .bool true])) ∧ Below w.heap.size w w'
theorem sub_none {L : List Nat} {f n : Int} (h : f = 0 ∨ (f < 0 ∧ (L.length : Int) + f < 0) ∨ (0 < f ∧ (L.length : Int) < f)) : subL L f n = none := by
  unfold subL
  dsimp only
  rw [if_pos]
  rcases h with h | ⟨h, k⟩ | ⟨h, k⟩
  · exact .inl h
  · rw [if_pos h]; exact .inr (.inl k)
  · rw [if_neg (by omega)]; exact .inr (.inr (by omega))
theorem sub_some {L : List Nat} {f n : Int} {K : Nat} (hK : K < L.length) (h : (f < 0 ∧ (L.length : Int) + f = K) ∨ (0 < f ∧ f - 1 = K)) : subL L f n = some (if n < 0 then L.drop K else (L.drop K).take n.toNat) := by
  unfold subL
  dsimp only
  have e : (if f < 0 then (L.length : Int) + f else f - 1) = K := by
    rcases h with ⟨h, k⟩ | ⟨h, k⟩
    · rw [if_pos h]; exact k
    · rw [if_neg (by omega)]; exact k
  rw [e, if_neg (by omega), Int.toNat_natCast]
theorem RowN.sl {b : Nat} {W : World} {v : Value} {L : List Nat} (h : RowN b W v L) : ∃ A cap, v = .slice A L.length cap := by
  rcases h.form with ⟨rfl, rfl⟩ | ⟨g, cap, rfl, _⟩
  · exact ⟨_, _, rfl⟩
  · exact ⟨_, _, rfl⟩
theorem RowN.cell {b : Nat} {W : World} {A : Option Addr} {n cap : Nat} {L : List Nat} (h : RowN b W (.slice A n cap) L) {k : Nat} (hk : k < L.length) : ∃ g, A = some ⟨g, 0, none⟩ ∧ g < W.heap.size ∧ b ≤ g ∧ L.length ≤ cap ∧ cap ≤ maxLen ∧ W.cell? ⟨g, k, none⟩ = some (.int .i32 ((L.getD k 0 : Nat) : Int)) := by
  rcases h.form with ⟨_, e⟩ | ⟨g, cap', e, h1, h2, h3, h4, h5⟩
  · rw [e] at hk; simp at hk
  · injection e with e1 e2 e3
    subst e3
    exact ⟨g, e1, h4, h3, h1, h2, h5 k hk⟩
end Go.Proofs.YtfelcneedpndiaaDoor
