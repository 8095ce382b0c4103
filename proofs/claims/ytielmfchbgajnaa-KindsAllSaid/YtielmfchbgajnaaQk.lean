/-
  What a row over a slice of types needs.
-/
import Derived.Test.YtielmfchbgajnaaQj
import Derived.Test.YtielmfchbgajnaaJl
namespace Go.Proofs.Ytielmfchbgajnaa
open Go.ChangeShapes Go.WideShapes Go.ChangeAt Go.RowKit Go.Joins Go.Deep

section
variable {H : Type} {enc : TypeId × Value → H} {w : World}
theorem open_Types {b0 : Nat} {v : Value} {d : DataW H} {p : List MemPlace} (hv : Value.okWide Try.prog w .any b0 23 v) (h : DataW.Trod enc Try.prog w 0 (fun _ => true) true 23 v d p) (hw : ∀ q ∈ d.weights Try.prog 23, q ≤ reachBytes) :
    ∃ (a : Option Addr) (n c : Nat) (it : Nat → T), v = .slice a n c ∧ ItemsAt (fun _ => True) w a n it ∧ n ≤ 2513169434843 ∧ (n ≤ c ∧ c ≤ maxLen) := by
  obtain ⟨a0, n0, c0, rfl⟩ := okWide_slice Try.underlying23 hv
  obtain ⟨fuel, hf⟩ := h
  have h1 : DataW.trod enc Try.prog w 0 (fun _ => true) true fuel 23 [.slice a0 n0 c0] = some (d, p) := by simpa [Value.cells] using hf
  rcases open_slice Try.underlying23 h1 with ⟨e1, -⟩ | ⟨a, len, cap, m1, n1, D, Pl, e1, -, g3, g4, g5, g6, g7⟩
  · injection e1 with e1
    injection e1 with e2 e3 e4
    subst e2 e3 e4
    exact ⟨none, 0, 0, fun _ => .z, rfl, fun i hi => absurd hi (Nat.not_lt_zero _), Nat.zero_le _, Nat.le_refl _, Nat.zero_le _⟩
  · injection e1 with e1
    injection e1 with e2 e3 e4
    subst e2 e3 e4
    simp only [if_true] at g5
    subst g5
    have gd : d = _ := congrArg Prod.fst g6
    simp only at gd
    rw [gd] at hw
    have hr : reachBytes = 140737488351232 := by decide
    have hb1 : (n0 + (m1 - n0)) * 56 ≤ reachBytes := by
      have := hw ((n0 + (m1 - n0)) * 56) (by simp [DataW.weights, Try.underlying23, bytes26])
      exact this
    have each : ∀ i, i < n0 → ∃ t : T, ∃ g o, some a = some ⟨g, o, none⟩ ∧ True ∧ ∃ k1 a1 n1 c1 b1 m1 d1, Cell3 w g (o + i * 3) k1 a1 n1 c1 b1 m1 d1 ∧ Lies (fun _ => True) w (TV k1 a1 n1 c1 b1 m1 d1) t := fun i hi => by
      obtain ⟨cs', hc', ht'⟩ := g7 i (by omega)
      have mem : D i ∈ (List.range n0).map D := List.mem_map.2 ⟨i, List.mem_range.2 hi, rfl⟩
      have wD : ∀ q ∈ (D i).weights Try.prog 26, q ≤ reachBytes := fun q hq => hw q (by
        simp only [DataW.weights, Try.underlying23, List.mem_cons, List.mem_append]
        right; left
        exact weights_mem_all mem q hq)
      obtain ⟨k1, a1, n2, c1, b1, m2, d1, t1, rfl, L⟩ := open_cells (SizeOf.sizeOf (D i) + 1) (x := (D i, Pl i)) (Nat.lt_succ_self _) ht' wD
      obtain ⟨-, -, hcell⟩ := World.cells?_some hc'
      rw [cells26] at hcell
      have z0 := hcell 0 (by decide)
      have z1 := hcell 1 (by decide)
      have z2 := hcell 2 (by decide)
      obtain ⟨cz, hz, -⟩ := g7 0 (by omega)
      obtain ⟨-, -, zcell⟩ := World.cells?_some hz
      rw [cells26] at zcell
      have zz := zcell 0 (by decide)
      obtain ⟨-, zl, -⟩ := World.cells?_some hz
      rw [cells26] at zl
      rw [List.getElem?_eq_getElem (by omega)] at zz
      obtain ⟨g, o, spot⟩ := a
      have hs := World.cell?_spot zz
      have e : spot = none := by simpa [Addr.add] using hs
      subst e
      rw [add_plain, add_plain] at z0 z1 z2
      exact ⟨t1, g, o, rfl, trivial, k1, a1, n2, c1, b1, m2, d1, ⟨z0, z1, z2⟩, L⟩
    obtain ⟨F, hF⟩ := choose_lt each
    exact ⟨some a, n0, m1, F, rfl, fun i hi => hF i hi, by omega, g3, g4⟩
end
theorem readable23 : Try.prog.readableRec 23 = true := by kernel_rfl
theorem row23 : 23 < Try.prog.types.size := of_decide_eq_true (by kernel_rfl)
theorem keep_Types {H : Type} {enc : TypeId × Value → H} {W W' : World} {v : Value} {d : DataW H} {ps : List MemPlace} (h : DataW.Trod enc Try.prog W 0 (fun _ => true) true 23 v d ps) (hb : Below W.heap.size W W') : DataW.Trod enc Try.prog W' 0 (fun b => decide (b < W.heap.size)) true 23 v d ps :=
  Below.trod laid_out readable23 row23 h hb (fun x hx => by obtain ⟨fuel, hf⟩ := h; exact DataW.trod_lt fuel _ _ _ hf x hx)
end Go.Proofs.Ytielmfchbgajnaa
