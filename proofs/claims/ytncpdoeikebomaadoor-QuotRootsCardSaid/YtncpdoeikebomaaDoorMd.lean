/-
  Plain arithmetic of a division by halves of words: no program in sight.
-/
namespace Go.Proofs.YtncpdoeikebomaaDoor

/-- Where the search for a digit stands: q is the guess, r what is left by the high half. -/
def StepF (u v1 v0 u0 q r : Nat) : Prop := q * v1 + r = u ∧ r < 4294967296 ∧ (u * 4294967296 + u0) / (v1 * 4294967296 + v0) ≤ q ∧ q ≤ 4294967297
/-- What a divisor and a dividend are. -/
def StepPre (u v1 v0 u0 : Nat) : Prop := u < v1 * 4294967296 + v0 ∧ 2147483648 ≤ v1 ∧ v1 < 4294967296 ∧ v0 < 4294967296 ∧ u0 < 4294967296

theorem times_v (q v1 v0 : Nat) : q * (v1 * 4294967296 + v0) = q * v1 * 4294967296 + q * v0 := by rw [Nat.mul_add, ← Nat.mul_assoc]

theorem step_lt {u v1 v0 u0 q : Nat} (p : StepPre u v1 v0 u0) {r : Nat} (e : q * v1 + r = u) : (u * 4294967296 + u0) / (v1 * 4294967296 + v0) < q ↔ r * 4294967296 + u0 < q * v0 := by
  obtain ⟨_, _, _, _, _⟩ := p
  rw [Nat.div_lt_iff_lt_mul (by omega), times_v]
  omega

theorem stepF_start {u v1 v0 u0 : Nat} (p : StepPre u v1 v0 u0) : StepF u v1 v0 u0 (u / v1) (u % v1) := by
  have p' := p
  obtain ⟨p1, p2, p3, p4, p5⟩ := p'
  have e : u / v1 * v1 + u % v1 = u := Nat.div_add_mod' u v1
  have hr : u % v1 < v1 := Nat.mod_lt _ (by omega)
  refine ⟨e, by omega, ?_, ?_⟩
  · rw [Nat.le_div_iff_mul_le (by omega)]
    have h := Nat.div_mul_le_self (u * 4294967296 + u0) (v1 * 4294967296 + v0)
    rw [times_v] at h
    generalize (u * 4294967296 + u0) / (v1 * 4294967296 + v0) = Q at *
    have : 0 ≤ Q * v0 := Nat.zero_le _
    omega
  · have h : u / v1 < 4294967298 := by
      rw [Nat.div_lt_iff_lt_mul (by omega)]
      omega
    omega

theorem step_Q {u v1 v0 u0 : Nat} (p : StepPre u v1 v0 u0) : (u * 4294967296 + u0) / (v1 * 4294967296 + v0) < 4294967296 := by
  obtain ⟨p1, p2, p3, p4, p5⟩ := p
  rw [Nat.div_lt_iff_lt_mul (by omega)]
  omega

/-- The guess is too great: one less. -/
theorem stepF_less {u v1 v0 u0 q r : Nat} (p : StepPre u v1 v0 u0) (f : StepF u v1 v0 u0 q r) (h : 4294967296 ≤ q ∨ r * 4294967296 + u0 < q * v0) :
    0 < q ∧ (r + v1 < 4294967296 → StepF u v1 v0 u0 (q - 1) (r + v1)) ∧ (4294967296 ≤ r + v1 → q - 1 = (u * 4294967296 + u0) / (v1 * 4294967296 + v0)) := by
  obtain ⟨f1, f2, f3, f4⟩ := f
  have hQ := step_Q p
  have lt : (u * 4294967296 + u0) / (v1 * 4294967296 + v0) < q := by
    rcases h with h | h
    · omega
    · exact (step_lt p f1).2 h
  have q0 : 0 < q := Nat.lt_of_le_of_lt (Nat.zero_le _) lt
  obtain ⟨k, rfl⟩ : ∃ k, q = k + 1 := ⟨q - 1, by omega⟩
  have e : k * v1 + (r + v1) = u := by rw [Nat.add_mul] at f1; omega
  have g := step_lt p e
  obtain ⟨p1, p2, p3, p4, p5⟩ := p
  refine ⟨by omega, fun h1 => ⟨e, h1, Nat.le_of_lt_succ lt, by omega⟩, fun h1 => ?_⟩
  generalize (u * 4294967296 + u0) / (v1 * 4294967296 + v0) = Q at *
  have hk : k * v0 ≤ 4294967296 * 4294967295 := Nat.mul_le_mul (by omega) (by omega)
  have : ¬ (r + v1) * 4294967296 + u0 < k * v0 := by omega
  have := mt g.1 this
  omega

/-- The guess is right. -/
theorem stepF_done {u v1 v0 u0 q r : Nat} (p : StepPre u v1 v0 u0) (f : StepF u v1 v0 u0 q r) (h : q * v0 ≤ r * 4294967296 + u0) : q = (u * 4294967296 + u0) / (v1 * 4294967296 + v0) := by
  obtain ⟨f1, f2, f3, f4⟩ := f
  have := mt (step_lt p f1).1 (by omega)
  generalize (u * 4294967296 + u0) / (v1 * 4294967296 + v0) = Q at *
  omega

/-- Both digits and what is left, together. -/
theorem div_final {D y K u t u1 u0 u2 Q P r Y : Nat} (hK : 0 < K) (hY : Y = y * K) (hD : u * 18446744073709551616 + t = D * K) (ht : t = u1 * 4294967296 + u0) (h1 : Q * Y + u2 = u * 4294967296 + u1) (h2 : P * Y + r = u2 * 4294967296 + u0) (hr : r < Y) :
    r / K < y ∧ (Q * 4294967296 + P) * y + r / K = D := by
  have e : (Q * 4294967296 + P) * y * K + r = D * K := by
    have e1 : (Q * 4294967296 + P) * y * K = Q * Y * 4294967296 + P * Y := by rw [Nat.mul_assoc, ← hY, Nat.add_mul, Nat.mul_right_comm]
    rw [e1, Nat.add_assoc, h2, ← Nat.add_assoc, ← Nat.add_mul, h1, ← hD, ht, Nat.add_mul, Nat.mul_assoc, ← Nat.add_assoc]
  refine ⟨Nat.div_lt_of_lt_mul (by rw [Nat.mul_comm, ← hY]; exact hr), ?_⟩
  have e2 := congrArg (· / K) e
  simp only [Nat.mul_div_cancel _ hK] at e2
  rw [Nat.add_comm, Nat.add_mul_div_right _ _ hK] at e2
  omega
end Go.Proofs.YtncpdoeikebomaaDoor
