/-
  A type opened, with how much room its text takes at most (for a row with a bound).
-/
import Derived.Test.YtielmfchbgajnaaQj
import Derived.Test.YtielmfchbgajnaaJu
import Derived.Deep.CondSized
namespace Go.Proofs.Ytielmfchbgajnaa
open Go.ChangeShapes Go.WideShapes Go.ChangeAt Go.RowKit Go.Joins Go.Deep

theorem bulk_append {H : Type} : ∀ (a b : List (DataW H)), Rows.uptoBulkAll (a ++ b) = Rows.uptoBulkAll a + Rows.uptoBulkAll b
  | [], b => by show Rows.uptoBulkAll b = 0 + Rows.uptoBulkAll b; omega
  | x :: a, b => by
    have := bulk_append a b
    show Rows.uptoBulk x + Rows.uptoBulkAll (a ++ b) = Rows.uptoBulk x + Rows.uptoBulkAll a + Rows.uptoBulkAll b
    omega
theorem bulk_range {H : Type} (D : Nat → DataW H) : ∀ n, Rows.uptoBulkAll ((List.range n).map D) = sumN (fun i => Rows.uptoBulk (D i)) n
  | 0 => rfl
  | n + 1 => by
    rw [List.range_succ, List.map_append, bulk_append, bulk_range D n]
    show _ + (Rows.uptoBulk (D n) + 0) = _ + Rows.uptoBulk (D n)
    omega
theorem sumN_mul (f : Nat → Nat) (c : Nat) : ∀ n, sumN (fun i => c * f i) n = c * sumN f n
  | 0 => rfl
  | n + 1 => by
    have := sumN_mul f c n
    show sumN (fun i => c * f i) n + c * f n = c * (sumN f n + f n)
    rw [this, Nat.mul_add]
section
variable {H : Type} {enc : TypeId × Value → H} {w : World}
/-- The names. -/
theorem open_names_u {fuel : Nat} {v : Value} {x : DataW H × List MemPlace} (h : DataW.trod enc Try.prog w 0 (fun _ => true) true fuel 24 [v] = some x) (hw : ∀ q ∈ x.1.weights Try.prog 24, q ≤ reachBytes) :
    ∃ (b : Option Addr) (m d : Nat) (nm : Nat → ByteArray), v = .slice b m d ∧ m ≤ 8796093021952 ∧ (m ≤ d ∧ d ≤ maxLen) ∧ (b = none → d = 0) ∧ (∀ i, i < m → ∃ g o, b = some ⟨g, o, none⟩ ∧ w.cell? ⟨g, o + i, none⟩ = some (.string (nm i)) ∧ Short (nm i)) ∧ sumN (fun i => 5 * (nm i).size + 8) m + 88 ≤ 88 * Rows.uptoBulk x.1 := by
  rcases open_strs Try.underlying24 Try.underlying9 cells9 h with ⟨h1, hx0⟩ | ⟨a, len, cap, m, Sx, h1, -, h3, h4, h5, h6, h7⟩
  · injection h1 with h1
    subst h1
    exact ⟨none, 0, 0, fun _ => ByteArray.empty, rfl, Nat.zero_le _, ⟨Nat.le_refl _, Nat.zero_le _⟩, fun _ => rfl, fun i hi => absurd hi (Nat.not_lt_zero _), by rw [hx0]; show 0 + 88 ≤ 88 * 1; omega⟩
  · injection h1 with h1
    subst h1
    simp only [if_true] at h5
    subst h5
    rw [h6] at hw
    have hb : (len + (m - len)) * 16 ≤ reachBytes := by
      have := hw ((len + (m - len)) * 16) (by simp [DataW.weights, Try.underlying24, bytes9])
      exact this
    have hr : reachBytes = 140737488351232 := by decide
    refine ⟨some a, len, m, Sx, rfl, by omega, ⟨h3, h4⟩, fun e => (by cases e), fun i hi => ?_, ?_⟩
    rotate_left
    · rw [h6]
      show sumN (fun i => 5 * (Sx i).size + 8) len + 88 ≤ 88 * (Rows.uptoBulkAll ((List.range len).map fun i => DataW.lit (.string (Sx i).data.toList)) + Rows.uptoBulkAll _ + 1)
      rw [bulk_range]
      have := sumN_le (fun i => 5 * (Sx i).size + 8) (fun i => 88 * Rows.uptoBulk (H := H) (.lit (.string (Sx i).data.toList))) len (fun i _ => by
        show 5 * (Sx i).data.toList.length + 8 ≤ 88 * ((Sx i).data.toList.length + 1)
        omega)
      rw [sumN_mul] at this
      omega
    obtain ⟨c, s⟩ := h7 i (by omega)
    obtain ⟨g, o, spot⟩ := a
    have hs := World.cell?_spot (h7 0 (by omega)).1
    have e : spot = none := by simpa [Addr.add] using hs
    subst e
    rw [add_plain] at c
    refine ⟨g, o, rfl, c, ?_⟩
    have := hw (Sx i).data.toList.length (by
      simp only [DataW.weights, Try.underlying24, List.mem_cons, List.mem_append]
      right; left
      exact weights_mem_all (d := .lit (.string (Sx i).data.toList)) (List.mem_map.2 ⟨i, List.mem_range.2 hi, rfl⟩) _ (by simp [DataW.weights]))
    rw [hr] at this
    unfold Short
    have e2 : (Sx i).size = (Sx i).data.toList.length := rfl
    omega
/-- What a type's cells hold leads to a type, told plainly. -/
theorem open_cells_u : ∀ (N : Nat) {fuel : Nat} {cs : List Value} {x : DataW H × List MemPlace}, SizeOf.sizeOf x.1 < N → DataW.trod enc Try.prog w 0 (fun _ => true) true fuel 26 cs = some x → (∀ q ∈ x.1.weights Try.prog 26, q ≤ reachBytes) →
    ∃ (k : Int) (a : Option Addr) (n c : Nat) (b : Option Addr) (m d : Nat) (t : T), cs = [.int .i64 k, .slice a n c, .slice b m d] ∧ Lies (fun _ => True) w (TV k a n c b m d) t ∧ room t + 8 ≤ 88 * Rows.uptoBulk x.1
  | 0, _, _, _, h, _, _ => absurd h (Nat.not_lt_zero _)
  | N + 1, fuel, cs, x, hN, h, hw => by
    obtain ⟨v0, v1, v2, y0, y1, y2, n0, rfl, hx, h0, h1, h2⟩ := open_three Try.underlying26 (by kernel_rfl) cells26 h
    obtain ⟨k, e0, -, wk⟩ := DataW.trod_int Try.underlying22 h0
    injection e0 with e0
    subst e0
    rw [hx] at hw hN
    have hw1 : ∀ q ∈ y1.1.weights Try.prog 23, q ≤ reachBytes := fun q hq => hw q (by
      simp only [DataW.weights, Try.underlying26]
      simp only [List.map, DataW.weightsEach, List.mem_append]
      exact .inr (.inl hq))
    have hw2 : ∀ q ∈ y2.1.weights Try.prog 24, q ≤ reachBytes := fun q hq => hw q (by
      simp only [DataW.weights, Try.underlying26]
      simp only [List.map, DataW.weightsEach, List.mem_append]
      exact .inr (.inr (.inl hq)))
    obtain ⟨b, m, d, nm, rfl, hm, hd, hb, hnm, hnr⟩ := open_names_u h2 hw2
    have bulk : Rows.uptoBulk x.1 = Rows.uptoBulk y0.1 + (Rows.uptoBulk y1.1 + (Rows.uptoBulk y2.1 + 0)) + 1 := by rw [hx]; rfl
    have roomL : ∀ kk nn (itt : Nat → T), sumN (fun i => room (itt i) + 8) nn + 88 ≤ 88 * Rows.uptoBulk y1.1 → room (.mk kk nn itt m nm) + 8 ≤ 88 * Rows.uptoBulk x.1 := fun kk nn itt hh => by
      show (if kk = 0 then 40 else 80) + sumN (fun i => room (itt i) + 8) nn + sumN (fun i => 5 * (nm i).size + 8) m + 8 ≤ _
      have : (if kk = 0 then 40 else 80) ≤ 80 := by split <;> omega
      omega
    have ik : I64 k := by
      simp only [Lit.wf, Bool.and_eq_true, decide_eq_true_eq] at wk
      exact wk
    rcases open_slice Try.underlying23 h1 with ⟨e1, hx0⟩ | ⟨a, len, cap, m1, n1, D, Pl, e1, -, g3, g4, g5, g6, g7⟩
    · injection e1 with e1
      subst e1
      exact ⟨k, none, 0, 0, b, m, d, .mk k 0 (fun _ => .z) m nm, rfl, .mk none 0 b d (fun _ => .bool false) ik ⟨Nat.zero_le _, hm⟩ ⟨Nat.le_refl _, Nat.zero_le _⟩ hd (fun _ => rfl) hb (fun i hi => absurd hi (Nat.not_lt_zero _)) (fun i hi => absurd hi (Nat.not_lt_zero _)) (fun i hi => by obtain ⟨g, o, e, c, s⟩ := hnm i hi; exact ⟨g, o, e, trivial, c, s⟩), roomL _ _ _ (by rw [hx0]; show 0 + 88 ≤ 88 * 1; omega)⟩
    · injection e1 with e1
      subst e1
      simp only [if_true] at g5
      subst g5
      rw [g6] at hw1
      have hr : reachBytes = 140737488351232 := by decide
      have hb1 : (len + (m1 - len)) * 56 ≤ reachBytes := by
        have := hw1 ((len + (m1 - len)) * 56) (by simp [DataW.weights, Try.underlying23, bytes26])
        exact this
      have each : ∀ i, i < len → ∃ y : Value × T, (∃ g o, some a = some ⟨g, o, none⟩ ∧ True ∧ ∃ k1 a1 n1 c1 b1 m1 d1, y.1 = TV k1 a1 n1 c1 b1 m1 d1 ∧ Cell3 w g (o + i * 3) k1 a1 n1 c1 b1 m1 d1) ∧ Lies (fun _ => True) w y.1 y.2 ∧ room y.2 + 8 ≤ 88 * Rows.uptoBulk (D i) := fun i hi => by
        obtain ⟨cs', hc', ht'⟩ := g7 i (by omega)
        have mem : D i ∈ (List.range len).map D := List.mem_map.2 ⟨i, List.mem_range.2 hi, rfl⟩
        have sz : SizeOf.sizeOf (D i) < N := by
          have s1 := List.sizeOf_lt_of_mem mem
          rw [g6] at hN
          simp only [DataW.agg.sizeOf_spec, List.cons.sizeOf_spec, DataW.slice.sizeOf_spec] at hN
          omega
        have wD : ∀ q ∈ (D i).weights Try.prog 26, q ≤ reachBytes := fun q hq => hw1 q (by
          simp only [DataW.weights, Try.underlying23, List.mem_cons, List.mem_append]
          right; left
          exact weights_mem_all mem q hq)
        obtain ⟨k1, a1, n2, c1, b1, m2, d1, t1, rfl, L, RB⟩ := open_cells_u N (x := (D i, Pl i)) sz ht' wD
        obtain ⟨-, -, hcell⟩ := World.cells?_some hc'
        rw [cells26] at hcell
        have z0 := hcell 0 (by decide)
        have z1 := hcell 1 (by decide)
        have z2 := hcell 2 (by decide)
        obtain ⟨cz, hz, -⟩ := g7 0 (by omega)
        obtain ⟨-, -, zcell⟩ := World.cells?_some hz
        rw [cells26] at zcell
        have zz := zcell 0 (by decide)
        obtain ⟨-, zl, -⟩ := World.cells?_some hz
        rw [cells26] at zl
        rw [List.getElem?_eq_getElem (by omega)] at zz
        obtain ⟨g, o, spot⟩ := a
        have hs := World.cell?_spot zz
        have e : spot = none := by simpa [Addr.add] using hs
        subst e
        rw [add_plain, add_plain] at z0 z1 z2
        exact ⟨(TV k1 a1 n2 c1 b1 m2 d1, t1), ⟨g, o, rfl, trivial, k1, a1, n2, c1, b1, m2, d1, rfl, ⟨z0, z1, z2⟩⟩, L, RB⟩
      obtain ⟨F, hF⟩ := choose_lt each
      exact ⟨k, some a, len, m1, b, m, d, .mk k len (fun i => (F i).2) m nm, rfl, .mk (some a) m1 b d (fun i => (F i).1) ik ⟨by omega, hm⟩ ⟨g3, g4⟩ hd (fun e => by cases e) hb (fun i hi => (hF i hi).1) (fun i hi => (hF i hi).2.1) (fun i hi => by obtain ⟨g, o, e, c, s⟩ := hnm i hi; exact ⟨g, o, e, trivial, c, s⟩), roomL _ _ _ (by
        rw [g6]
        show sumN (fun i => room (F i).2 + 8) len + 88 ≤ 88 * (Rows.uptoBulkAll ((List.range len).map D) + Rows.uptoBulkAll _ + 1)
        rw [bulk_range]
        have := sumN_le (fun i => room (F i).2 + 8) (fun i => 88 * Rows.uptoBulk (D i)) len (fun i hi => (hF i hi).2.2)
        rw [sumN_mul] at this
        omega)⟩
/-- An argument that is a type. -/
theorem open_Type_u {b0 : Nat} {v : Value} {d : DataW H} {p : List MemPlace} (hv : Value.okWide Try.prog w .any b0 26 v) (h : DataW.Trod enc Try.prog w 0 (fun _ => true) true 26 v d p) (hw : ∀ q ∈ d.weights Try.prog 26, q ≤ reachBytes) :
    ∃ (k : Int) (a : Option Addr) (n c : Nat) (b : Option Addr) (m e : Nat) (t : T), v = TV k a n c b m e ∧ Lies (fun _ => True) w (TV k a n c b m e) t ∧ room t + 8 ≤ 88 * Rows.uptoBulk d := by
  obtain ⟨cs, rfl, hsz⟩ := okWide_struct Try.underlying26 hv
  obtain ⟨fuel, hf⟩ := h
  obtain ⟨k, a, n, c, b, m, e, t, hcs, L, RB⟩ := open_cells_u (SizeOf.sizeOf d + 1) (x := (d, p)) (Nat.lt_succ_self _) hf hw
  have : cs = #[.int .i64 k, .slice a n c, .slice b m e] := by
    apply Array.ext'
    exact hcs
  subst this
  exact ⟨k, a, n, c, b, m, e, t, rfl, L, RB⟩
end
end Go.Proofs.Ytielmfchbgajnaa
