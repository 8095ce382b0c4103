/-
  Plain arithmetic of words that are shifted: no program in sight.
-/
namespace Go.Proofs.YtncpdoeikebomaaDoor.Sh

theorem or_sum {x y s : Nat} (h : y < 2 ^ s) : 2 ^ s * x ||| y = 2 ^ s * x + y := (Nat.two_pow_add_eq_or_of_lt h x).symm
theorem or_sum' {x y s : Nat} (h : y < 2 ^ s) : y ||| x * 2 ^ s = x * 2 ^ s + y := by
  rw [Nat.or_comm, Nat.mul_comm x, or_sum h]
theorem or_sum'' {x y s : Nat} (h : y < 2 ^ s) : x * 2 ^ s ||| y = x * 2 ^ s + y := by
  rw [Nat.mul_comm x, or_sum h]

theorem pow64 {s : Nat} (h : s ≤ 63) : 2 ^ (64 - s) * 2 ^ s = 18446744073709551616 := by
  rw [← Nat.pow_add, show 64 - s + s = 64 by omega]

variable {K M B : Nat}
theorem mul_mod_of (e : M * K = B) (x : Nat) : x * K % B = x % M * K := by rw [← e, Nat.mul_mod_mul_right]
theorem mul_mod_of' (e : M * K = B) (x : Nat) : x * M % B = x % K * M := by rw [← e, Nat.mul_comm M K, Nat.mul_mod_mul_right]

/-- To the right. -/
theorem right_val (e : M * K = B) (hK : 0 < K) (h l : Nat) : h / K * B + (h % K * M + l / K) = (h * B + l) / K := by
  have e1 : h * B + l = h * M * K + l := by rw [← e, Nat.mul_assoc]
  rw [e1, Nat.add_comm (h * M * K), Nat.add_mul_div_right _ _ hK]
  have e2 : h * M = h / K * B + h % K * M := by
    conv => lhs; rw [← Nat.div_add_mod' h K]
    rw [Nat.add_mul, Nat.mul_assoc, Nat.mul_comm K M, e]
  rw [e2]; omega
/-- To the left: what is left of it below B times B. -/
theorem left_val (e : M * K = B) (h l : Nat) : (h % M * K + l / M) * B + l % M * K + h / M * (B * B) = (h * B + l) * K := by
  have e1 : l * K = l / M * B + l % M * K := by
    conv => lhs; rw [← Nat.div_add_mod' l M]
    rw [Nat.add_mul, Nat.mul_assoc, e]
  have e2 : h * K = h / M * B + h % M * K := by
    conv => lhs; rw [← Nat.div_add_mod' h M]
    rw [Nat.add_mul, Nat.mul_assoc, e]
  have e3 : (h * B + l) * K = h * K * B + l * K := by rw [Nat.add_mul, Nat.mul_right_comm]
  rw [e3, e1, e2, Nat.add_mul, Nat.add_mul, Nat.mul_assoc (h / M)]
  omega
theorem left_lt (e : M * K = B) (hK : 0 < K) (hM : 0 < M) (h l : Nat) (hl : l < B) : h % M * K + l / M < B ∧ l % M * K < B := by
  have h1 : h % M + 1 ≤ M := Nat.mod_lt _ hM
  have h2 := Nat.mul_le_mul_right K h1
  have h3 : l / M < K := Nat.div_lt_of_lt_mul (by rw [e]; exact hl)
  have h4 : l % M + 1 ≤ M := Nat.mod_lt _ hM
  have h5 := Nat.mul_le_mul_right K h4
  rw [Nat.add_mul, Nat.one_mul, e] at h2 h5
  omega
theorem right_lt (e : M * K = B) (hK : 0 < K) (h l : Nat) (hh : h < B) (hl : l < B) : h / K < B ∧ l / K < M ∧ h % K * M + l / K < B := by
  have h1 : h / K ≤ h := Nat.div_le_self _ _
  have h3 : l / K < M := Nat.div_lt_of_lt_mul (by rw [Nat.mul_comm, e]; exact hl)
  have h4 : h % K + 1 ≤ K := Nat.mod_lt _ hK
  have h5 := Nat.mul_le_mul_right M h4
  rw [Nat.add_mul, Nat.one_mul, Nat.mul_comm K M, e] at h5
  omega
end Go.Proofs.YtncpdoeikebomaaDoor.Sh
