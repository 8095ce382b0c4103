/-
  Plain arithmetic of a root that is found bit by bit: no program in sight.
-/
namespace Go.Proofs.YtncpdoeikebomaaDoor

/-- Where the search stands with k bits to come: b is the bit, r what has been found. -/
def RootF (N k b r : Nat) : Prop := (k = 0 → b = 0) ∧ (0 < k → b = 2 ^ (k - 1)) ∧ k ≤ 128 ∧ r % 2 ^ k = 0 ∧ r < 2 ^ 128 ∧ r * r ≤ N ∧ N < (r + 2 ^ k) * (r + 2 ^ k)

theorem rootF_start {N : Nat} (h : N < 2 ^ 128 * 2 ^ 128) : RootF N 128 (2 ^ 127) 0 :=
  ⟨fun h => (by cases h), fun _ => rfl, Nat.le_refl _, Nat.zero_mod _, Nat.two_pow_pos _, Nat.zero_le _, (by rw [Nat.zero_add]; exact h)⟩

theorem rootF_room {N k b r : Nat} (f : RootF N (k + 1) b r) : b = 2 ^ k ∧ r + b < 2 ^ 128 ∧ r + 2 ^ (k + 1) ≤ 2 ^ 128 := by
  obtain ⟨_, f2, f3, f4, f5, _, _⟩ := f
  have hb : b = 2 ^ k := f2 (by omega)
  have e : (2 : Nat) ^ 128 = 2 ^ (127 - k) * 2 ^ (k + 1) := by rw [← Nat.pow_add, show 127 - k + (k + 1) = 128 by omega]
  have er : r = r / 2 ^ (k + 1) * 2 ^ (k + 1) := by have := Nat.div_add_mod' r (2 ^ (k + 1)); omega
  have hp : (0 : Nat) < 2 ^ (k + 1) := Nat.two_pow_pos _
  have hq : r / 2 ^ (k + 1) < 2 ^ (127 - k) := Nat.div_lt_of_lt_mul (by rw [Nat.mul_comm, ← e]; exact f5)
  have h1 := Nat.mul_le_mul_right (2 ^ (k + 1)) (Nat.succ_le_of_lt hq)
  rw [Nat.succ_mul, ← er, ← e] at h1
  have h2 : (2 : Nat) ^ (k + 1) = 2 ^ k + 2 ^ k := by rw [Nat.pow_succ]; omega
  have h3 : (0 : Nat) < 2 ^ k := Nat.two_pow_pos _
  exact ⟨hb, by omega, h1⟩

theorem half_bit (k : Nat) : (k = 0 → 2 ^ k / 2 = 0) ∧ (0 < k → 2 ^ k / 2 = 2 ^ (k - 1)) := by
  refine ⟨fun h => by subst h; rfl, fun h => ?_⟩
  obtain ⟨j, rfl⟩ : ∃ j, k = j + 1 := ⟨k - 1, by omega⟩
  rw [Nat.pow_succ, Nat.mul_div_cancel _ (by decide), Nat.add_sub_cancel]

theorem rootF_take {N k b r : Nat} (f : RootF N (k + 1) b r) (h : (r + b) * (r + b) ≤ N) : RootF N k (b / 2) (r + b) := by
  obtain ⟨hb, h1, h2⟩ := rootF_room f
  obtain ⟨_, _, f3, f4, f5, f6, f7⟩ := f
  subst hb
  obtain ⟨a1, a2⟩ := half_bit k
  refine ⟨a1, a2, by omega, ?_, h1, h, ?_⟩
  · have : r % 2 ^ k = 0 := Nat.mod_eq_zero_of_dvd (Nat.dvd_trans (Nat.pow_dvd_pow 2 (Nat.le_succ k)) (Nat.dvd_of_mod_eq_zero f4))
    rw [Nat.add_mod_right, this]
  · rw [Nat.add_assoc, ← Nat.two_mul, Nat.mul_comm 2, ← Nat.pow_succ]
    exact f7
theorem rootF_pass {N k b r : Nat} (f : RootF N (k + 1) b r) (h : N < (r + b) * (r + b)) : RootF N k (b / 2) r := by
  obtain ⟨hb, h1, h2⟩ := rootF_room f
  obtain ⟨_, _, f3, f4, f5, f6, f7⟩ := f
  subst hb
  obtain ⟨a1, a2⟩ := half_bit k
  exact ⟨a1, a2, by omega, Nat.mod_eq_zero_of_dvd (Nat.dvd_trans (Nat.pow_dvd_pow 2 (Nat.le_succ k)) (Nat.dvd_of_mod_eq_zero f4)), f5, f6, h⟩
theorem rootF_end {N b r : Nat} (f : RootF N 0 b r) : b = 0 ∧ r * r ≤ N ∧ N < (r + 1) * (r + 1) := ⟨f.1 rfl, f.2.2.2.2.2.1, f.2.2.2.2.2.2⟩
theorem rootF_bit {N k b r : Nat} (f : RootF N (k + 1) b r) : b ≠ 0 := by
  have := (rootF_room f).1
  have := Nat.two_pow_pos k
  omega
end Go.Proofs.YtncpdoeikebomaaDoor
