/-
  Durations' texts (layer 9), plain: one sign more; units that are found; what stays small; what stands behind a P.
-/
import Derived.Test.YthgondbiddncpaaDoorYp
import Derived.Lib.Strings
namespace Go.Proofs.YthgondbiddncpaaDoor

theorem runU_snoc {most : Nat} {b : UInt8} : ∀ {l : List UInt8} {s t : SumT}, runU most l s = some t → runU most (l ++ [b]) s = stepU most b.toNat t := by
  intro l
  induction l with
  | nil =>
    intro s t h
    cases h
    rw [List.nil_append, run_cons]
    cases stepU most b.toNat s <;> rfl
  | cons c r ih =>
    intro s t h
    rw [List.cons_append, run_cons]
    rw [run_cons] at h
    cases e : stepU most c.toNat s with
    | none => rw [e] at h; cases h
    | some u => rw [e] at h; exact ih h
theorem runU_stop {most : Nat} {b : UInt8} {r : List UInt8} : ∀ {l : List UInt8} {s t : SumT}, runU most l s = some t → stepU most b.toNat t = none → runU most (l ++ b :: r) s = none := by
  intro l
  induction l with
  | nil =>
    intro s t h k
    cases h
    rw [List.nil_append, run_cons, k]
  | cons c r ih =>
    intro s t h k
    rw [List.cons_append, run_cons]
    rw [run_cons] at h
    cases e : stepU most c.toNat s with
    | none => rfl
    | some u => rw [e] at h; exact ih h k
theorem findU_none {c : Nat} : ∀ {us : List (Nat × Nat)}, (∀ j, j < us.length → (us.getD j (0, 0)).1 ≠ c) → findU us c = none := by
  intro us
  induction us with
  | nil => intro _; rfl
  | cons u t ih =>
    intro h
    unfold findU
    rw [if_neg (show ¬ u.1 = c from h 0 (by simp))]
    exact ih (fun j hj => h (j + 1) (by rw [List.length_cons]; omega))
theorem findU_some {c : Nat} : ∀ {us : List (Nat × Nat)} {k : Nat}, k < us.length → (us.getD k (0, 0)).1 = c → (∀ j, j < k → (us.getD j (0, 0)).1 ≠ c) → findU us c = some ((us.getD k (0, 0)).2, us.drop (k + 1)) := by
  intro us
  induction us with
  | nil => intro k h; exact absurd h (by simp)
  | cons u t ih =>
    intro k hk h1 h2
    cases k with
    | zero =>
      unfold findU
      rw [if_pos (show u.1 = c from h1)]
      rfl
    | succ k =>
      unfold findU
      rw [if_neg (show ¬ u.1 = c from h2 0 (by omega))]
      exact ih (by rw [List.length_cons] at hk; omega) h1 (fun j hj => h2 (j + 1) (by omega))
/-- What the units may come to, of numbers of so many digits. -/
def bud (most : Nat) : List (Nat × Nat) → Nat
  | [] => 0
  | u :: us => 10 ^ most * u.2 + bud most us
theorem bud_find {most c z : Nat} : ∀ {us vs : List (Nat × Nat)}, findU us c = some (z, vs) → 10 ^ most * z + bud most vs ≤ bud most us := by
  intro us
  induction us with
  | nil => intro vs h; cases h
  | cons u t ih =>
    intro vs h
    unfold findU at h
    by_cases q : u.1 = c
    · rw [if_pos q] at h
      cases h
      exact Nat.le_refl _
    · rw [if_neg q] at h
      exact Nat.le_trans (ih h) (Nat.le_add_left _ _)
/-- All letters are plain ones. -/
def lowU (us : List (Nat × Nat)) : Prop := ∀ u ∈ us, u.1 < 128
theorem low_find {us vs : List (Nat × Nat)} {c z : Nat} (h : lowU us) (k : findU us c = some (z, vs)) : lowU vs ∧ c < 128 := by
  induction us with
  | nil => cases k
  | cons u t ih =>
    unfold findU at k
    by_cases q : u.1 = c
    · rw [if_pos q] at k
      cases k
      exact ⟨fun v hv => h v (List.mem_cons_of_mem _ hv), by rw [← q]; exact h u (List.mem_cons_self ..)⟩
    · rw [if_neg q] at k
      exact ih (fun v hv => h v (List.mem_cons_of_mem _ hv)) k
theorem low_none {us : List (Nat × Nat)} {c : Nat} (h : lowU us) (k : 128 ≤ c) : findU us c = none := by
  cases e : findU us c with
  | none => rfl
  | some x =>
    obtain ⟨z, vs⟩ := x
    have := (low_find h e).2
    omega
theorem isD_high {c : Nat} (k : 128 ≤ c) : isD c = false := decide_eq_false (by omega)
theorem step_high {most c : Nat} {t : SumT} (h : lowU t.2.2.2) (k : 128 ≤ c) : stepU most c t = none := by
  unfold stepU
  rw [if_neg (fun e => by rw [isD_high k] at e; exact absurd e.1 (by decide)), low_none h k]
/-- What holds of what was read so far: bounds. -/
def InvU (most : Nat) (t : SumT) : Prop := t.2.2.1 ≤ most ∧ t.2.1 < 10 ^ t.2.2.1 ∧ t.1 + bud most t.2.2.2 ≤ 10 ^ 18 ∧ lowU t.2.2.2
theorem inv_step {most b : Nat} {t u : SumT} (h : InvU most t) (k : stepU most b t = some u) : InvU most u := by
  obtain ⟨a, n, d, us⟩ := t
  obtain ⟨h1, h2, h3, h4⟩ := h
  simp only at h1 h2 h3 h4
  unfold stepU at k
  simp only at k
  by_cases q : isD b = true ∧ d < most
  · rw [if_pos q] at k
    cases k
    have := of_decide_eq_true q.1
    refine ⟨q.2, ?_, h3, h4⟩
    show n * 10 + (b - 48) < 10 ^ (d + 1)
    rw [Nat.pow_succ]
    omega
  · rw [if_neg q] at k
    cases e : findU us b with
    | none => rw [e] at k; cases k
    | some x =>
      obtain ⟨z, vs⟩ := x
      rw [e] at k
      simp only at k
      by_cases q2 : d = 0
      · rw [if_pos q2] at k; cases k
      · rw [if_neg q2] at k
        cases k
        have p := bud_find (most := most) e
        refine ⟨Nat.zero_le _, by show 0 < 10 ^ 0; decide, ?_, (low_find h4 e).1⟩
        show a + n * z + bud most vs ≤ 10 ^ 18
        have : n * z ≤ 10 ^ most * z := Nat.mul_le_mul_right _ (Nat.le_of_lt (Nat.lt_of_lt_of_le h2 (Nat.pow_le_pow_right (by decide) h1)))
        omega
theorem inv_mul {most a n d z b : Nat} {us vs : List (Nat × Nat)} (h : InvU most (a, n, d, us)) (e : findU us b = some (z, vs)) : a + n * z ≤ 10 ^ 18 ∧ z ≤ 10 ^ 18 := by
  obtain ⟨h1, h2, h3, h4⟩ := h
  simp only at h1 h2 h3
  have p := bud_find (most := most) e
  have q : n * z ≤ 10 ^ most * z := Nat.mul_le_mul_right _ (Nat.le_of_lt (Nat.lt_of_lt_of_le h2 (Nat.pow_le_pow_right (by decide) h1)))
  have r : 1 * z ≤ 10 ^ most * z := Nat.mul_le_mul_right _ (Nat.pow_pos (by decide))
  omega
/-- A sign taken off ahead, and whether it was there. -/
def strip (c : UInt8) : List UInt8 → List UInt8 × Bool
  | [] => ([], false)
  | b :: t => if b = c then (t, true) else (b :: t, false)
theorem strip_cons (c b : UInt8) (t : List UInt8) : strip c (b :: t) = if b = c then (t, true) else (b :: t, false) := rfl
theorem strip_trim (c : UInt8) (l : List UInt8) : Lib.trimPrefix l [c] = (strip c l).1 ∧ Lib.hasPrefix l [c] = (strip c l).2 := by
  unfold Lib.trimPrefix Lib.hasPrefix
  cases l with
  | nil => exact ⟨rfl, rfl⟩
  | cons b t =>
    rw [strip_cons]
    by_cases q : b = c
    · subst q
      simp
    · have q' : ¬ c = b := fun e => q e.symm
      have e : ([c] : List UInt8).isPrefixOf (b :: t) = false := by simp [List.isPrefixOf, q']
      rw [e, if_neg q]
      exact ⟨rfl, rfl⟩
/-- What stands behind a P, whether a - stands ahead, whether there is a P. -/
def bodyL (l : List UInt8) : List UInt8 × Bool × Bool := ((strip 80 (strip 45 l).1).1, (strip 45 l).2, (strip 80 (strip 45 l).1).2)
theorem strip_len (c : UInt8) (l : List UInt8) : (strip c l).1.length ≤ l.length := by
  cases l with
  | nil => exact Nat.le_refl _
  | cons b t =>
    by_cases q : b = c
    · rw [show strip c (b :: t) = (t, true) by rw [strip_cons, if_pos q], List.length_cons]; exact Nat.le_succ _
    · rw [show strip c (b :: t) = (b :: t, false) by rw [strip_cons, if_neg q]]; exact Nat.le_refl _
theorem body_len (l : List UInt8) : (bodyL l).1.length ≤ l.length := Nat.le_trans (strip_len _ _) (strip_len _ _)
/-- A duration, with its sign; none, if it is too long. -/
def signU (o : Option Nat) (below : Bool) : Option Int := match o with
  | none => none
  | some n => if 9007199254740992 < n then none else some (if below then -(n : Int) else (n : Int))
end Go.Proofs.YthgondbiddncpaaDoor
