/-
  What the walks of layer 2's statements share: what is asked of Add, Sub and of the document's examples; what a block holds, behind calls and stores.
-/
import Derived.Test.YtkkddflclakphaaDoorE8
import Derived.Test.YtkkddflclakphaaDoorEm
import Derived.Test.YtkkddflclakphaaDoorPe
namespace Go.Proofs.YtkkddflclakphaaDoor
open Go.RowKit

theorem keepCell2 {W w' : World} {g o : Nat} {v : Value} (h : W.cell? ⟨g, o, none⟩ = some v) (hb : Below W.heap.size W w') : w'.cell? ⟨g, o, none⟩ = some v := by
  refine (hb.cell (p := ⟨g, o, none⟩) ?_).trans h
  rcases Nat.lt_or_ge g W.heap.size with x | x
  · exact x
  · rw [World.cell?, Array.getElem?_eq_none x] at h; cases h
theorem keepSet {W : World} {g o : Nat} {v : Value} (h : W.cell? ⟨g, o, none⟩ = some v) {p : Addr} {u : Value} (hp : g ≠ p.block) : (W.setCell p u).cell? ⟨g, o, none⟩ = some v :=
  (World.cell?_of_block (a := ⟨g, o, none⟩) (Below.heap_setCell W p u g hp)).trans h
theorem keep44 {W w' : World} {g k : Nat} {v0 v1 v2 v3 v4 v5 v6 v7 : Value} (hb : Below W.heap.size W w') (h : W.cell? ⟨g, 0, none⟩ = some v0 ∧ W.cell? ⟨g, 1, none⟩ = some v1 ∧ W.cell? ⟨g, 2, none⟩ = some v2 ∧ W.cell? ⟨g, 3, none⟩ = some v3 ∧ W.cell? ⟨k, 0, none⟩ = some v4 ∧ W.cell? ⟨k, 1, none⟩ = some v5 ∧ W.cell? ⟨k, 2, none⟩ = some v6 ∧ W.cell? ⟨k, 3, none⟩ = some v7) : w'.cell? ⟨g, 0, none⟩ = some v0 ∧ w'.cell? ⟨g, 1, none⟩ = some v1 ∧ w'.cell? ⟨g, 2, none⟩ = some v2 ∧ w'.cell? ⟨g, 3, none⟩ = some v3 ∧ w'.cell? ⟨k, 0, none⟩ = some v4 ∧ w'.cell? ⟨k, 1, none⟩ = some v5 ∧ w'.cell? ⟨k, 2, none⟩ = some v6 ∧ w'.cell? ⟨k, 3, none⟩ = some v7 :=
  ⟨keepCell2 h.1 hb, keepCell2 h.2.1 hb, keepCell2 h.2.2.1 hb, keepCell2 h.2.2.2.1 hb, keepCell2 h.2.2.2.2.1 hb, keepCell2 h.2.2.2.2.2.1 hb, keepCell2 h.2.2.2.2.2.2.1 hb, keepCell2 h.2.2.2.2.2.2.2 hb⟩
theorem keep44a {W : World} {g k : Nat} {v0 v1 v2 v3 v4 v5 v6 v7 : Value} {ob : Obj} (h : W.cell? ⟨g, 0, none⟩ = some v0 ∧ W.cell? ⟨g, 1, none⟩ = some v1 ∧ W.cell? ⟨g, 2, none⟩ = some v2 ∧ W.cell? ⟨g, 3, none⟩ = some v3 ∧ W.cell? ⟨k, 0, none⟩ = some v4 ∧ W.cell? ⟨k, 1, none⟩ = some v5 ∧ W.cell? ⟨k, 2, none⟩ = some v6 ∧ W.cell? ⟨k, 3, none⟩ = some v7) : (W.alloc ob).cell? ⟨g, 0, none⟩ = some v0 ∧ (W.alloc ob).cell? ⟨g, 1, none⟩ = some v1 ∧ (W.alloc ob).cell? ⟨g, 2, none⟩ = some v2 ∧ (W.alloc ob).cell? ⟨g, 3, none⟩ = some v3 ∧ (W.alloc ob).cell? ⟨k, 0, none⟩ = some v4 ∧ (W.alloc ob).cell? ⟨k, 1, none⟩ = some v5 ∧ (W.alloc ob).cell? ⟨k, 2, none⟩ = some v6 ∧ (W.alloc ob).cell? ⟨k, 3, none⟩ = some v7 :=
  keep44 ((Below.refl _ _).alloc (Nat.le_refl _) ob) h
theorem keep44d {W : World} {g k : Nat} {v0 v1 v2 v3 v4 v5 v6 v7 : Value} (h : W.cell? ⟨g, 0, none⟩ = some v0 ∧ W.cell? ⟨g, 1, none⟩ = some v1 ∧ W.cell? ⟨g, 2, none⟩ = some v2 ∧ W.cell? ⟨g, 3, none⟩ = some v3 ∧ W.cell? ⟨k, 0, none⟩ = some v4 ∧ W.cell? ⟨k, 1, none⟩ = some v5 ∧ W.cell? ⟨k, 2, none⟩ = some v6 ∧ W.cell? ⟨k, 3, none⟩ = some v7) : W.drew.cell? ⟨g, 0, none⟩ = some v0 ∧ W.drew.cell? ⟨g, 1, none⟩ = some v1 ∧ W.drew.cell? ⟨g, 2, none⟩ = some v2 ∧ W.drew.cell? ⟨g, 3, none⟩ = some v3 ∧ W.drew.cell? ⟨k, 0, none⟩ = some v4 ∧ W.drew.cell? ⟨k, 1, none⟩ = some v5 ∧ W.drew.cell? ⟨k, 2, none⟩ = some v6 ∧ W.drew.cell? ⟨k, 3, none⟩ = some v7 := h
theorem keep44s {W : World} {g k : Nat} {v0 v1 v2 v3 v4 v5 v6 v7 : Value} {p : Addr} {u : Value} (hg : g ≠ p.block) (hk : k ≠ p.block) (h : W.cell? ⟨g, 0, none⟩ = some v0 ∧ W.cell? ⟨g, 1, none⟩ = some v1 ∧ W.cell? ⟨g, 2, none⟩ = some v2 ∧ W.cell? ⟨g, 3, none⟩ = some v3 ∧ W.cell? ⟨k, 0, none⟩ = some v4 ∧ W.cell? ⟨k, 1, none⟩ = some v5 ∧ W.cell? ⟨k, 2, none⟩ = some v6 ∧ W.cell? ⟨k, 3, none⟩ = some v7) : (W.setCell p u).cell? ⟨g, 0, none⟩ = some v0 ∧ (W.setCell p u).cell? ⟨g, 1, none⟩ = some v1 ∧ (W.setCell p u).cell? ⟨g, 2, none⟩ = some v2 ∧ (W.setCell p u).cell? ⟨g, 3, none⟩ = some v3 ∧ (W.setCell p u).cell? ⟨k, 0, none⟩ = some v4 ∧ (W.setCell p u).cell? ⟨k, 1, none⟩ = some v5 ∧ (W.setCell p u).cell? ⟨k, 2, none⟩ = some v6 ∧ (W.setCell p u).cell? ⟨k, 3, none⟩ = some v7 :=
  ⟨keepSet h.1 hg, keepSet h.2.1 hg, keepSet h.2.2.1 hg, keepSet h.2.2.2.1 hg, keepSet h.2.2.2.2.1 hk, keepSet h.2.2.2.2.2.1 hk, keepSet h.2.2.2.2.2.2.1 hk, keepSet h.2.2.2.2.2.2.2 hk⟩
theorem Below.set1' {w W : World} (B : Below w.heap.size w W) (g i : Nat) (hg : w.heap.size ≤ g) (v : Value) : Below w.heap.size w (W.setCell ⟨g, i, none⟩ v) := Below.setCell B hg _
theorem HoldsD.new4 {W : World} {g t : Nat} {neg : Bool} {h l : Nat} {e : Int} (hg : g = W.heap.size) : HoldsD (W.alloc (.cells #[.bool neg, .int .u64 (h : Int), .int .u64 (l : Int), .int .i64 e] t)) g neg h l e := by
  subst hg
  simp [HoldsD, go_sem]
theorem HoldsD.zero4 {W : World} {g t : Nat} (hg : g = W.heap.size) : HoldsD (W.alloc (.cells #[.bool false, .int .u64 0, .int .u64 0, .int .i64 0] t)) g false 0 0 0 := HoldsD.new4 hg
theorem HoldsD.put4 {W : World} {g : Nat} {a : Bool} {b c : Nat} {d : Int} {neg : Bool} {h l : Nat} {e : Int} (H : HoldsD W g a b c d) : HoldsD ((((W.setCell ⟨g, 0, none⟩ (.bool neg)).setCell ⟨g, 1, none⟩ (.int .u64 (h : Int))).setCell ⟨g, 2, none⟩ (.int .u64 (l : Int))).setCell ⟨g, 3, none⟩ (.int .i64 e)) g neg h l e := by
  obtain ⟨⟨a, b, c, d⟩, ⟨a', b', c', d'⟩, s⟩ := H
  simp [HoldsD, go_sem, *]
theorem HoldsD.drew2 {W : World} {g : Nat} {neg : Bool} {h l : Nat} {e : Int} (H : HoldsD W g neg h l e) : HoldsD W.drew g neg h l e := H
theorem numO_inj {o : Option (Bool × Nat × Int)} {a a' : Bool} {b b' c c' : Nat} {d d' : Int} {e e' : Bool} (h : NumO o a b c d e) (h' : NumO o a' b' c' d' e') : a = a' ∧ b = b' ∧ c = c' ∧ d = d' ∧ e = e' := by
  obtain ⟨w, k⟩ := h
  obtain ⟨w', k'⟩ := h'
  match o, k, k' with
  | none, ⟨k1, k2, k3, k4, k5⟩, ⟨j1, j2, j3, j4, j5⟩ => exact ⟨k2.trans j2.symm, k3.trans j3.symm, k4.trans j4.symm, k5.trans j5.symm, k1.trans j1.symm⟩
  | some (s, c, x), ⟨k1, k2, k3, k4⟩, ⟨j1, j2, j3, j4⟩ =>
    obtain ⟨p, q⟩ := nv_inj w w' (k3.trans j3.symm)
    exact ⟨k2.trans j2.symm, p, q, k4.trans j4.symm, k1.trans j1.symm⟩
theorem keep4 {W w' : World} {g : Nat} {v0 v1 v2 v3 : Value} (hb : Below W.heap.size W w') (h : W.cell? ⟨g, 0, none⟩ = some v0 ∧ W.cell? ⟨g, 1, none⟩ = some v1 ∧ W.cell? ⟨g, 2, none⟩ = some v2 ∧ W.cell? ⟨g, 3, none⟩ = some v3) : w'.cell? ⟨g, 0, none⟩ = some v0 ∧ w'.cell? ⟨g, 1, none⟩ = some v1 ∧ w'.cell? ⟨g, 2, none⟩ = some v2 ∧ w'.cell? ⟨g, 3, none⟩ = some v3 := ⟨keepCell2 h.1 hb, keepCell2 h.2.1 hb, keepCell2 h.2.2.1 hb, keepCell2 h.2.2.2 hb⟩
theorem keep4a {W : World} {g : Nat} {v0 v1 v2 v3 : Value} {ob : Obj} (h : W.cell? ⟨g, 0, none⟩ = some v0 ∧ W.cell? ⟨g, 1, none⟩ = some v1 ∧ W.cell? ⟨g, 2, none⟩ = some v2 ∧ W.cell? ⟨g, 3, none⟩ = some v3) : (W.alloc ob).cell? ⟨g, 0, none⟩ = some v0 ∧ (W.alloc ob).cell? ⟨g, 1, none⟩ = some v1 ∧ (W.alloc ob).cell? ⟨g, 2, none⟩ = some v2 ∧ (W.alloc ob).cell? ⟨g, 3, none⟩ = some v3 := keep4 ((Below.refl _ _).alloc (Nat.le_refl _) ob) h
theorem keep4d {W : World} {g : Nat} {v0 v1 v2 v3 : Value} (h : W.cell? ⟨g, 0, none⟩ = some v0 ∧ W.cell? ⟨g, 1, none⟩ = some v1 ∧ W.cell? ⟨g, 2, none⟩ = some v2 ∧ W.cell? ⟨g, 3, none⟩ = some v3) : W.drew.cell? ⟨g, 0, none⟩ = some v0 ∧ W.drew.cell? ⟨g, 1, none⟩ = some v1 ∧ W.drew.cell? ⟨g, 2, none⟩ = some v2 ∧ W.drew.cell? ⟨g, 3, none⟩ = some v3 := h
theorem keep4s {W : World} {g : Nat} {v0 v1 v2 v3 : Value} {p : Addr} {u : Value} (hg : g ≠ p.block) (h : W.cell? ⟨g, 0, none⟩ = some v0 ∧ W.cell? ⟨g, 1, none⟩ = some v1 ∧ W.cell? ⟨g, 2, none⟩ = some v2 ∧ W.cell? ⟨g, 3, none⟩ = some v3) : (W.setCell p u).cell? ⟨g, 0, none⟩ = some v0 ∧ (W.setCell p u).cell? ⟨g, 1, none⟩ = some v1 ∧ (W.setCell p u).cell? ⟨g, 2, none⟩ = some v2 ∧ (W.setCell p u).cell? ⟨g, 3, none⟩ = some v3 := ⟨keepSet h.1 hg, keepSet h.2.1 hg, keepSet h.2.2.1 hg, keepSet h.2.2.2 hg⟩
/-- What a number is: its words, its bounds, its sign. -/
def NumOk (n : Bool) (h l : Nat) (x : Int) : Prop := WW h l ∧ NumD (nv h l) x ∧ (nv h l = 0 → n = false)
instance (c : Nat) (x : Int) : Decidable (NumD c x) := by unfold NumD; infer_instance
theorem ww1 {c : Nat} (h : c < 18446744073709551616) : WW 0 c := ⟨by decide, h⟩
theorem nv01 (c : Nat) : nv 0 c = c := by unfold nv; omega
theorem numO_small {c : Nat} {s : Bool} {x : Int} (hc : c < 18446744073709551616) {neg : Bool} {h l : Nat} {y : Int} {ok : Bool} (N : NumO (some (s, c, x)) neg h l y ok) : ok = true ∧ neg = s ∧ h = 0 ∧ l = c ∧ y = x := by
  obtain ⟨⟨a, b⟩, k1, k2, k3, k4⟩ := N
  unfold nv at k3
  exact ⟨k1, k2, by omega, by omega, k4⟩
theorem nv2_lt' {h l h' l' : Nat} (h1 : WW h l) (h2 : WW h' l') : nv2 h l h' l' < B128 * B128 := by
  have a := nv_lt h1
  have b := nv_lt h2
  unfold nv2
  have := Nat.mul_le_mul_right B128 (Nat.succ_le_of_lt a)
  rw [Nat.succ_mul] at this
  omega
end Go.Proofs.YtkkddflclakphaaDoor
