/-
  Plain arithmetic of sums and comparisons of decimal digits: no program in sight.
-/
import Derived.Test.YtncpdoeikebomaaDoorR0
namespace Go.Proofs.YtncpdoeikebomaaDoor.Dg

/-- The sum, digit by digit. -/
def add : List Nat → List Nat → Nat → List Nat
  | [], [], c => dg c
  | [], b :: s, c => ((0 + b + c) % 10) :: add [] s ((0 + b + c) / 10)
  | a :: r, [], c => ((a + 0 + c) % 10) :: add r [] ((a + 0 + c) / 10)
  | a :: r, b :: s, c => ((a + b + c) % 10) :: add r s ((a + b + c) / 10)
theorem val_add : ∀ (a b : List Nat) (c : Nat), val (add a b c) = val a + val b + c
  | [], [], c => by rw [add, val_dg, val]; omega
  | [], b :: s, c => by simp only [add, val, val_add [] s]; omega
  | a :: r, [], c => by simp only [add, val, val_add r []]; omega
  | a :: r, b :: s, c => by simp only [add, val, val_add r s]; omega
theorem add_lt : ∀ (a b : List Nat) (c : Nat), ∀ d ∈ add a b c, d < 10
  | [], [], c => by rw [add]; exact dg_lt c
  | [], b :: s, c => by
    rw [add]
    intro e he
    rcases List.mem_cons.1 he with rfl | he
    · omega
    · exact add_lt [] s _ e he
  | a :: r, [], c => by
    rw [add]
    intro e he
    rcases List.mem_cons.1 he with rfl | he
    · omega
    · exact add_lt r [] _ e he
  | a :: r, b :: s, c => by
    rw [add]
    intro e he
    rcases List.mem_cons.1 he with rfl | he
    · omega
    · exact add_lt r s _ e he
theorem add_length : ∀ (a b : List Nat) (c : Nat), (∀ d ∈ a, d < 10) → (∀ d ∈ b, d < 10) → c ≤ 1 → (add a b c).length ≤ a.length + b.length + 1
  | [], [], c, _, _, hc => by rw [add]; have := @dg_length_le c 1 (by omega); simp; omega
  | [], b :: s, c, ha, hb, hc => by
    have h1 := hb b (by simp)
    have := add_length [] s ((0 + b + c) / 10) ha (fun y hy => hb y (List.mem_cons_of_mem _ hy)) (by omega)
    simp only [add, List.length_cons] at *
    omega
  | a :: r, [], c, ha, hb, hc => by
    have h1 := ha a (by simp)
    have := add_length r [] ((a + 0 + c) / 10) (fun y hy => ha y (List.mem_cons_of_mem _ hy)) hb (by omega)
    simp only [add, List.length_cons] at *
    omega
  | a :: r, b :: s, c, ha, hb, hc => by
    have h1 := ha a (by simp)
    have h2 := hb b (by simp)
    have := add_length r s ((a + b + c) / 10) (fun y hy => ha y (List.mem_cons_of_mem _ hy)) (fun y hy => hb y (List.mem_cons_of_mem _ hy)) (by omega)
    simp only [add, List.length_cons] at *
    omega
theorem add_step (a b : List Nat) (k c : Nat) (h : ¬ (a.length ≤ k ∧ b.length ≤ k ∧ c = 0)) :
    add (a.drop k) (b.drop k) c = ((a.getD k 0 + b.getD k 0 + c) % 10) :: add (a.drop (k + 1)) (b.drop (k + 1)) ((a.getD k 0 + b.getD k 0 + c) / 10) := by
  rcases Nat.lt_or_ge k a.length with z | z <;> rcases Nat.lt_or_ge k b.length with y | y
  · rw [List.drop_eq_getElem_cons z, List.drop_eq_getElem_cons y, add]
    simp [List.getD, z, y]
  · rw [List.drop_eq_getElem_cons z, List.drop_eq_nil_of_le y, List.drop_eq_nil_of_le (show b.length ≤ k + 1 by omega), add, show b.getD k 0 = 0 from by simp [List.getD, y]]
    simp [List.getD, z]
  · rw [List.drop_eq_getElem_cons y, List.drop_eq_nil_of_le z, List.drop_eq_nil_of_le (show a.length ≤ k + 1 by omega), add, show a.getD k 0 = 0 from by simp [List.getD, z]]
    simp [List.getD, y]
  · have hc : c ≠ 0 := fun e => h ⟨z, y, e⟩
    rw [List.drop_eq_nil_of_le z, List.drop_eq_nil_of_le y, List.drop_eq_nil_of_le (show a.length ≤ k + 1 by omega), List.drop_eq_nil_of_le (show b.length ≤ k + 1 by omega), add, add, dg_pos hc, show a.getD k 0 = 0 from by simp [List.getD, z], show b.getD k 0 = 0 from by simp [List.getD, y]]
    simp
theorem add_done (a b : List Nat) (k c : Nat) (h : a.length ≤ k ∧ b.length ≤ k ∧ c = 0) : add (a.drop k) (b.drop k) c = [] := by
  rw [List.drop_eq_nil_of_le h.1, List.drop_eq_nil_of_le h.2.1, h.2.2, add, dg_zero]

theorem dg_bounds (n : Nat) : n < 10 ^ (dg n).length ∧ (n ≠ 0 → 10 ^ ((dg n).length - 1) ≤ n) := by
  induction n using Nat.strongRecOn with
  | _ n ih =>
    by_cases h : n = 0
    · subst h; rw [dg_zero]; simp
    · obtain ⟨i1, i2⟩ := ih (n / 10) (by omega)
      rw [dg_pos h, List.length_cons, Nat.pow_succ]
      refine ⟨by omega, fun _ => ?_⟩
      rw [Nat.add_sub_cancel]
      by_cases h2 : n / 10 = 0
      · rw [h2, dg_zero]; simp; omega
      · have i3 := i2 h2
        have : (dg (n / 10)).length ≠ 0 := fun e => by
          have := List.eq_nil_of_length_eq_zero e
          rw [dg_pos h2] at this
          cases this
        obtain ⟨j, hj⟩ : ∃ j, (dg (n / 10)).length = j + 1 := ⟨(dg (n / 10)).length - 1, by omega⟩
        rw [hj] at i3 ⊢
        rw [Nat.add_sub_cancel] at i3
        rw [Nat.pow_succ]
        omega
theorem lt_of_length {m n : Nat} (h : (dg m).length < (dg n).length) : m < n := by
  have hn : n ≠ 0 := fun e => by subst e; rw [dg_zero] at h; cases h
  have a := (dg_bounds m).1
  have b := (dg_bounds n).2 hn
  have c : (10 : Nat) ^ (dg m).length ≤ 10 ^ ((dg n).length - 1) := Nat.pow_le_pow_right (by decide) (by omega)
  omega
theorem val_lt : ∀ (l : List Nat), (∀ d ∈ l, d < 10) → val l < 10 ^ l.length
  | [], _ => by simp [val]
  | d :: r, h => by
    have h1 := h d (by simp)
    have := val_lt r (fun y hy => h y (List.mem_cons_of_mem _ hy))
    rw [val, List.length_cons, Nat.pow_succ]
    omega
/-- The highest digit in which two rows of digits part decides. -/
theorem lt_at {a b : List Nat} (ha : ∀ d ∈ a, d < 10) (j : Nat) (h1 : j < a.length) (h2 : j < b.length) (e : a.drop (j + 1) = b.drop (j + 1)) (l : a.getD j 0 < b.getD j 0) : val a < val b := by
  have ea : val a = val (a.take j) + 10 ^ j * (a.getD j 0 + 10 * val (a.drop (j + 1))) := by
    conv => lhs; rw [← List.take_append_drop j a]
    rw [val_append, List.length_take, Nat.min_eq_left (by omega), List.drop_eq_getElem_cons h1, val]
    simp [List.getD, h1]
  have eb : val b = val (b.take j) + 10 ^ j * (b.getD j 0 + 10 * val (b.drop (j + 1))) := by
    conv => lhs; rw [← List.take_append_drop j b]
    rw [val_append, List.length_take, Nat.min_eq_left (by omega), List.drop_eq_getElem_cons h2, val]
    simp [List.getD, h2]
  have t := val_lt (a.take j) (fun d hd => ha d (List.mem_of_mem_take hd))
  rw [List.length_take, Nat.min_eq_left (by omega)] at t
  rw [ea, eb, e]
  have m := Nat.mul_le_mul_left (10 ^ j) (show a.getD j 0 + 10 * val (b.drop (j + 1)) + 1 ≤ b.getD j 0 + 10 * val (b.drop (j + 1)) by omega)
  rw [Nat.mul_add, Nat.mul_one] at m
  omega
end Go.Proofs.YtncpdoeikebomaaDoor.Dg
