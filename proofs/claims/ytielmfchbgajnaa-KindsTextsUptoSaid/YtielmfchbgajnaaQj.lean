/-
  What a row over types needs: a type opened (as deep as it goes), and shut again.
-/
import Derived.Test.YtielmfchbgajnaaRows
import Derived.Test.YtielmfchbgajnaaJa
import Derived.WalkKit
import Derived.ProofKit
import Derived.OpenShut
import Derived.Lib.SmallJoins
import Derived.Carry
import Derived.ChangeOld
import Derived.SizedLaws
import Derived.Deep.Strs
namespace Go.Proofs.Ytielmfchbgajnaa
open Go.ChangeShapes Go.WideShapes Go.ChangeAt Go.RowKit Go.Joins Go.Deep

theorem own : ownKnob Try.prog.godebug = none := by kernel_rfl
theorem cells26 : Try.prog.cellsOf 26 = 3 := by kernel_rfl
theorem cells9 : Try.prog.cellsOf 9 = 1 := by kernel_rfl
theorem bytes26 : Try.prog.bytesOf 26 = 56 := by kernel_rfl
theorem bytes9 : Try.prog.bytesOf 9 = 16 := by kernel_rfl
theorem weights_mem_all {H : Type} {P : Program} {e : TypeId} {d : DataW H} : ∀ {l : List (DataW H)}, d ∈ l → ∀ q ∈ d.weights P e, q ∈ DataW.weightsAll P e l
  | x :: l, h, q, hq => by
    unfold DataW.weightsAll
    rw [List.mem_append]
    rcases List.mem_cons.1 h with rfl | h
    · exact .inl hq
    · exact .inr (weights_mem_all h q hq)
section
variable {H : Type} {enc : TypeId × Value → H} {w : World}
/-- The names. -/
theorem open_names {fuel : Nat} {v : Value} {x : DataW H × List MemPlace} (h : DataW.trod enc Try.prog w 0 (fun _ => true) true fuel 24 [v] = some x) (hw : ∀ q ∈ x.1.weights Try.prog 24, q ≤ reachBytes) :
    ∃ (b : Option Addr) (m d : Nat) (nm : Nat → ByteArray), v = .slice b m d ∧ m ≤ 8796093021952 ∧ (m ≤ d ∧ d ≤ maxLen) ∧ (b = none → d = 0) ∧ ∀ i, i < m → ∃ g o, b = some ⟨g, o, none⟩ ∧ w.cell? ⟨g, o + i, none⟩ = some (.string (nm i)) ∧ Short (nm i) := by
  rcases open_strs Try.underlying24 Try.underlying9 cells9 h with ⟨h1, -⟩ | ⟨a, len, cap, m, Sx, h1, -, h3, h4, h5, h6, h7⟩
  · injection h1 with h1
    subst h1
    exact ⟨none, 0, 0, fun _ => ByteArray.empty, rfl, Nat.zero_le _, ⟨Nat.le_refl _, Nat.zero_le _⟩, fun _ => rfl, fun i hi => absurd hi (Nat.not_lt_zero _)⟩
  · injection h1 with h1
    subst h1
    simp only [if_true] at h5
    subst h5
    rw [h6] at hw
    have hb : (len + (m - len)) * 16 ≤ reachBytes := by
      have := hw ((len + (m - len)) * 16) (by simp [DataW.weights, Try.underlying24, bytes9])
      exact this
    have hr : reachBytes = 140737488351232 := by decide
    refine ⟨some a, len, m, Sx, rfl, by omega, ⟨h3, h4⟩, fun e => (by cases e), fun i hi => ?_⟩
    obtain ⟨c, s⟩ := h7 i (by omega)
    obtain ⟨g, o, spot⟩ := a
    have hs := World.cell?_spot (h7 0 (by omega)).1
    have e : spot = none := by simpa [Addr.add] using hs
    subst e
    rw [add_plain] at c
    refine ⟨g, o, rfl, c, ?_⟩
    have := hw (Sx i).data.toList.length (by
      simp only [DataW.weights, Try.underlying24, List.mem_cons, List.mem_append]
      right; left
      exact weights_mem_all (d := .lit (.string (Sx i).data.toList)) (List.mem_map.2 ⟨i, List.mem_range.2 hi, rfl⟩) _ (by simp [DataW.weights]))
    rw [hr] at this
    unfold Short
    have e2 : (Sx i).size = (Sx i).data.toList.length := rfl
    omega
/-- A struct of three fields of a cell each. -/
theorem open_three {t : TypeId} {f0 f1 f2 : Field} {fuel : Nat} {cs : List Value} {x : DataW H × List MemPlace} (hs : Try.prog.underlying t = some (.struct #[f0, f1, f2])) (hone : oneCellFields Try.prog #[f0, f1, f2] = true) (hC : Try.prog.cellsOf t = 3) (h : DataW.trod enc Try.prog w 0 (fun _ => true) true fuel t cs = some x) :
    ∃ (v0 v1 v2 : Value) (y0 y1 y2 : DataW H × List MemPlace) (n : Nat), cs = [v0, v1, v2] ∧ x.1 = .agg [y0.1, y1.1, y2.1] ∧
      DataW.trod enc Try.prog w 0 (fun _ => true) true n f0.type [v0] = some y0 ∧ DataW.trod enc Try.prog w 0 (fun _ => true) true n f1.type [v1] = some y1 ∧ DataW.trod enc Try.prog w 0 (fun _ => true) true n f2.type [v2] = some y2 := by
  obtain ⟨y0, y1, y2, n, hx, hl, h0, h1, h2⟩ := trod_struct3 hs h
  rw [hC] at hl
  match cs, hl with
  | [c0, c1, c2], _ =>
    obtain ⟨o0, k0⟩ := hone_of hone 0 f0 rfl
    obtain ⟨o1, k1⟩ := hone_of hone 1 f1 rfl
    obtain ⟨o2, k2⟩ := hone_of hone 2 f2 rfl
    exact ⟨c0, c1, c2, y0, y1, y2, n, rfl, by rw [hx], by simpa [o0, k0] using h0, by simpa [o1, k1] using h1, by simpa [o2, k2] using h2⟩
/-- What a type's cells hold leads to a type, told plainly. -/
theorem open_cells : ∀ (N : Nat) {fuel : Nat} {cs : List Value} {x : DataW H × List MemPlace}, SizeOf.sizeOf x.1 < N → DataW.trod enc Try.prog w 0 (fun _ => true) true fuel 26 cs = some x → (∀ q ∈ x.1.weights Try.prog 26, q ≤ reachBytes) →
    ∃ (k : Int) (a : Option Addr) (n c : Nat) (b : Option Addr) (m d : Nat) (t : T), cs = [.int .i64 k, .slice a n c, .slice b m d] ∧ Lies (fun _ => True) w (TV k a n c b m d) t
  | 0, _, _, _, h, _, _ => absurd h (Nat.not_lt_zero _)
  | N + 1, fuel, cs, x, hN, h, hw => by
    obtain ⟨v0, v1, v2, y0, y1, y2, n0, rfl, hx, h0, h1, h2⟩ := open_three Try.underlying26 (by kernel_rfl) cells26 h
    obtain ⟨k, e0, -, wk⟩ := DataW.trod_int Try.underlying22 h0
    injection e0 with e0
    subst e0
    rw [hx] at hw hN
    have hw1 : ∀ q ∈ y1.1.weights Try.prog 23, q ≤ reachBytes := fun q hq => hw q (by
      simp only [DataW.weights, Try.underlying26]
      simp only [List.map, DataW.weightsEach, List.mem_append]
      exact .inr (.inl hq))
    have hw2 : ∀ q ∈ y2.1.weights Try.prog 24, q ≤ reachBytes := fun q hq => hw q (by
      simp only [DataW.weights, Try.underlying26]
      simp only [List.map, DataW.weightsEach, List.mem_append]
      exact .inr (.inr (.inl hq)))
    obtain ⟨b, m, d, nm, rfl, hm, hd, hb, hnm⟩ := open_names h2 hw2
    have ik : I64 k := by
      simp only [Lit.wf, Bool.and_eq_true, decide_eq_true_eq] at wk
      exact wk
    rcases open_slice Try.underlying23 h1 with ⟨e1, -⟩ | ⟨a, len, cap, m1, n1, D, Pl, e1, -, g3, g4, g5, g6, g7⟩
    · injection e1 with e1
      subst e1
      exact ⟨k, none, 0, 0, b, m, d, .mk k 0 (fun _ => .z) m nm, rfl, .mk none 0 b d (fun _ => .bool false) ik ⟨Nat.zero_le _, hm⟩ ⟨Nat.le_refl _, Nat.zero_le _⟩ hd (fun _ => rfl) hb (fun i hi => absurd hi (Nat.not_lt_zero _)) (fun i hi => absurd hi (Nat.not_lt_zero _)) (fun i hi => by obtain ⟨g, o, e, c, s⟩ := hnm i hi; exact ⟨g, o, e, trivial, c, s⟩)⟩
    · injection e1 with e1
      subst e1
      simp only [if_true] at g5
      subst g5
      rw [g6] at hw1
      have hr : reachBytes = 140737488351232 := by decide
      have hb1 : (len + (m1 - len)) * 56 ≤ reachBytes := by
        have := hw1 ((len + (m1 - len)) * 56) (by simp [DataW.weights, Try.underlying23, bytes26])
        exact this
      have each : ∀ i, i < len → ∃ y : Value × T, (∃ g o, some a = some ⟨g, o, none⟩ ∧ True ∧ ∃ k1 a1 n1 c1 b1 m1 d1, y.1 = TV k1 a1 n1 c1 b1 m1 d1 ∧ Cell3 w g (o + i * 3) k1 a1 n1 c1 b1 m1 d1) ∧ Lies (fun _ => True) w y.1 y.2 := fun i hi => by
        obtain ⟨cs', hc', ht'⟩ := g7 i (by omega)
        have mem : D i ∈ (List.range len).map D := List.mem_map.2 ⟨i, List.mem_range.2 hi, rfl⟩
        have sz : SizeOf.sizeOf (D i) < N := by
          have s1 := List.sizeOf_lt_of_mem mem
          rw [g6] at hN
          simp only [DataW.agg.sizeOf_spec, List.cons.sizeOf_spec, DataW.slice.sizeOf_spec] at hN
          omega
        have wD : ∀ q ∈ (D i).weights Try.prog 26, q ≤ reachBytes := fun q hq => hw1 q (by
          simp only [DataW.weights, Try.underlying23, List.mem_cons, List.mem_append]
          right; left
          exact weights_mem_all mem q hq)
        obtain ⟨k1, a1, n2, c1, b1, m2, d1, t1, rfl, L⟩ := open_cells N (x := (D i, Pl i)) sz ht' wD
        obtain ⟨-, -, hcell⟩ := World.cells?_some hc'
        rw [cells26] at hcell
        have z0 := hcell 0 (by decide)
        have z1 := hcell 1 (by decide)
        have z2 := hcell 2 (by decide)
        obtain ⟨cz, hz, -⟩ := g7 0 (by omega)
        obtain ⟨-, -, zcell⟩ := World.cells?_some hz
        rw [cells26] at zcell
        have zz := zcell 0 (by decide)
        obtain ⟨-, zl, -⟩ := World.cells?_some hz
        rw [cells26] at zl
        rw [List.getElem?_eq_getElem (by omega)] at zz
        obtain ⟨g, o, spot⟩ := a
        have hs := World.cell?_spot zz
        have e : spot = none := by simpa [Addr.add] using hs
        subst e
        rw [add_plain, add_plain] at z0 z1 z2
        exact ⟨(TV k1 a1 n2 c1 b1 m2 d1, t1), ⟨g, o, rfl, trivial, k1, a1, n2, c1, b1, m2, d1, rfl, ⟨z0, z1, z2⟩⟩, L⟩
      obtain ⟨F, hF⟩ := choose_lt each
      exact ⟨k, some a, len, m1, b, m, d, .mk k len (fun i => (F i).2) m nm, rfl, .mk (some a) m1 b d (fun i => (F i).1) ik ⟨by omega, hm⟩ ⟨g3, g4⟩ hd (fun e => by cases e) hb (fun i hi => (hF i hi).1) (fun i hi => (hF i hi).2) (fun i hi => by obtain ⟨g, o, e, c, s⟩ := hnm i hi; exact ⟨g, o, e, trivial, c, s⟩)⟩
/-- An argument that is a type. -/
theorem open_Type {b0 : Nat} {v : Value} {d : DataW H} {p : List MemPlace} (hv : Value.okWide Try.prog w .any b0 26 v) (h : DataW.Trod enc Try.prog w 0 (fun _ => true) true 26 v d p) (hw : ∀ q ∈ d.weights Try.prog 26, q ≤ reachBytes) :
    ∃ (k : Int) (a : Option Addr) (n c : Nat) (b : Option Addr) (m e : Nat) (t : T), v = TV k a n c b m e ∧ Lies (fun _ => True) w (TV k a n c b m e) t := by
  obtain ⟨cs, rfl, hsz⟩ := okWide_struct Try.underlying26 hv
  obtain ⟨fuel, hf⟩ := h
  obtain ⟨k, a, n, c, b, m, e, t, hcs, L⟩ := open_cells (SizeOf.sizeOf d + 1) (x := (d, p)) (Nat.lt_succ_self _) hf hw
  have : cs = #[.int .i64 k, .slice a n c, .slice b m e] := by
    apply Array.ext'
    exact hcs
  subst this
  exact ⟨k, a, n, c, b, m, e, t, rfl, L⟩
end
theorem laid_out : laidOutB Try.prog = true := by kernel_rfl
theorem readable26 : Try.prog.readableRec 26 = true := by kernel_rfl
theorem row26 : 26 < Try.prog.types.size := of_decide_eq_true (by kernel_rfl)
theorem keep_Type {H : Type} {enc : TypeId × Value → H} {W W' : World} {v : Value} {d : DataW H} {ps : List MemPlace} (h : DataW.Trod enc Try.prog W 0 (fun _ => true) true 26 v d ps) (hb : Below W.heap.size W W') : DataW.Trod enc Try.prog W' 0 (fun b => decide (b < W.heap.size)) true 26 v d ps :=
  Below.trod laid_out readable26 row26 h hb (fun x hx => by obtain ⟨fuel, hf⟩ := h; exact DataW.trod_lt fuel _ _ _ hf x hx)
end Go.Proofs.Ytielmfchbgajnaa
