/-
  Plain arithmetic of decimal digits, the lowest first: no program in sight.
-/
namespace Go.Proofs.YthgondbiddncpaaDoor.Dg

/-- The number of some digits. -/
def val : List Nat → Nat
  | [] => 0
  | d :: r => d + 10 * val r
/-- The digits of a number. -/
def dg (n : Nat) : List Nat := if n = 0 then [] else (n % 10) :: dg (n / 10)
termination_by n
decreasing_by omega

theorem dg_zero : dg 0 = [] := by rw [dg, if_pos rfl]
theorem dg_pos {n : Nat} (h : n ≠ 0) : dg n = (n % 10) :: dg (n / 10) := by rw [dg, if_neg h]

theorem val_dg (n : Nat) : val (dg n) = n := by
  induction n using Nat.strongRecOn with
  | _ n ih =>
    by_cases h : n = 0
    · subst h; rw [dg_zero]; rfl
    · rw [dg_pos h, val, ih (n / 10) (by omega)]; omega
theorem dg_lt (n : Nat) : ∀ d ∈ dg n, d < 10 := by
  induction n using Nat.strongRecOn with
  | _ n ih =>
    by_cases h : n = 0
    · subst h; rw [dg_zero]; intro d hd; cases hd
    · rw [dg_pos h]
      intro d hd
      rcases List.mem_cons.1 hd with rfl | hd
      · omega
      · exact ih (n / 10) (by omega) d hd
theorem dg_length_le {n k : Nat} (h : n < 10 ^ k) : (dg n).length ≤ k := by
  induction k generalizing n with
  | zero => have : n = 0 := by simpa using h
            subst this; rw [dg_zero]; exact Nat.le_refl _
  | succ k ih =>
    by_cases h0 : n = 0
    · subst h0; rw [dg_zero]; exact Nat.zero_le _
    · rw [dg_pos h0, List.length_cons]
      have : n / 10 < 10 ^ k := by rw [Nat.pow_succ] at h; omega
      have := ih this
      omega
/-- Digits whose last one is not 0 are those of their number. -/
theorem canon : ∀ (l : List Nat), (∀ d ∈ l, d < 10) → l.getLast? ≠ some 0 → l = dg (val l)
  | [], _, _ => by rw [val, dg_zero]
  | [d], h, k => by
    have h1 : d < 10 := h d (by simp)
    have h2 : d ≠ 0 := fun e => k (by simp [e])
    have e : val [d] = d := by simp [val]
    rw [e, dg_pos h2, Nat.mod_eq_of_lt h1, Nat.div_eq_of_lt h1, dg_zero]
  | d :: e :: r, h, k => by
    have ih := canon (e :: r) (fun x hx => h x (List.mem_cons_of_mem _ hx)) (by simpa using k)
    have h1 : d < 10 := h d (by simp)
    have hv : val (e :: r) ≠ 0 := fun z => by rw [z, dg_zero] at ih; cases ih
    rw [val, dg_pos (by omega), show (d + 10 * val (e :: r)) % 10 = d by omega, show (d + 10 * val (e :: r)) / 10 = val (e :: r) by omega, ← ih]

theorem val_append (l m : List Nat) : val (l ++ m) = val l + 10 ^ l.length * val m := by
  induction l with
  | nil => simp [val]
  | cons d r ih => simp only [List.cons_append, val, ih, List.length_cons, Nat.pow_succ]; rw [Nat.mul_add, ← Nat.mul_assoc, Nat.mul_comm 10 (10 ^ r.length)]; omega
theorem val_zeros : ∀ (l : List Nat), (∀ d ∈ l, d = 0) → val l = 0
  | [], _ => rfl
  | d :: r, h => by rw [val, val_zeros r (fun x hx => h x (List.mem_cons_of_mem _ hx)), h d (by simp)]

/-- Times x, and c more, digit by digit. -/
def small (x : Nat) : List Nat → Nat → List Nat
  | [], c => dg c
  | d :: r, c => ((d * x + c) % 10) :: small x r ((d * x + c) / 10)
theorem val_small (x : Nat) : ∀ (l : List Nat) (c : Nat), val (small x l c) = val l * x + c
  | [], c => by rw [small, val_dg, val]; omega
  | d :: r, c => by
    rw [small, val, val_small x r, val, Nat.add_mul, Nat.mul_assoc]
    generalize val r * x = y
    generalize d * x = z
    omega
theorem small_lt (x : Nat) : ∀ (l : List Nat) (c : Nat), ∀ d ∈ small x l c, d < 10
  | [], c => dg_lt c
  | d :: r, c => by
    intro e he
    rcases List.mem_cons.1 he with rfl | he
    · omega
    · exact small_lt x r _ e he
theorem small_length (x : Nat) (hx : x ≤ 4294967296) : ∀ (l : List Nat) (c : Nat), (∀ d ∈ l, d < 10) → c ≤ 4294967296 → (small x l c).length ≤ l.length + 10
  | [], c, _, hc => by rw [small]; have := @dg_length_le c 10 (by omega); simp; omega
  | d :: r, c, h, hc => by
    have h1 : d ≤ 9 := Nat.le_of_lt_succ (h d (by simp))
    have h2 : d * x ≤ 9 * 4294967296 := Nat.mul_le_mul h1 hx
    have := small_length x hx r ((d * x + c) / 10) (fun y hy => h y (List.mem_cons_of_mem _ hy)) (by omega)
    simp only [small, List.length_cons]
    omega
theorem small_step (x : Nat) (a : List Nat) (k c : Nat) (h : ¬ (a.length ≤ k ∧ c = 0)) : small x (a.drop k) c = ((a.getD k 0 * x + c) % 10) :: small x (a.drop (k + 1)) ((a.getD k 0 * x + c) / 10) := by
  rcases Nat.lt_or_ge k a.length with z | z
  · rw [List.drop_eq_getElem_cons z, small]
    simp [List.getD, z]
  · have hc : c ≠ 0 := fun e => h ⟨z, e⟩
    rw [List.drop_eq_nil_of_le z, List.drop_eq_nil_of_le (by omega), small, small, dg_pos hc, show a.getD k 0 = 0 from by simp [List.getD, z]]
    simp
theorem small_done (x : Nat) (a : List Nat) (k c : Nat) (h : a.length ≤ k ∧ c = 0) : small x (a.drop k) c = [] := by
  rw [List.drop_eq_nil_of_le h.1, h.2, small, dg_zero]
theorem getD_lt {a : List Nat} (h : ∀ d ∈ a, d < 10) (k : Nat) : a.getD k 0 ≤ 9 := by
  rcases Nat.lt_or_ge k a.length with z | z
  · have := h a[k] (List.getElem_mem z)
    simp [List.getD, z]; omega
  · simp [List.getD, z]
end Go.Proofs.YthgondbiddncpaaDoor.Dg
