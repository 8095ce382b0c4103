/-
  Several texts in one: each one's own remark stands ahead of it.
-/
import Derived.Test.YtkkddflclakphaaDoorProg
import Derived.WalkKit
import Derived.WalkSpells
import Derived.Handy
import Derived.RowKit3
import Derived.Test.YtkkddflclakphaaDoorSh
import Derived.Shelf.Spec.BitsCarry
import Derived.Laws.Bits64b
import Derived.Lib.Hide
import Derived.Deep.DeepCutAuto
import Derived.Deep.CutBlock
import Derived.Lib.ItoaNum
import Derived.BigQuiet
import Derived.Deep.QuietTactic
import Derived.Test.YtkkddflclakphaaDoorC0
import Derived.Deep.RegionHeld3
import Derived.Deep.LoopGhost
/-
  Plain arithmetic of a quotient that is guessed word by word: no program in sight.
-/
namespace Go.Proofs.YtkkddflclakphaaDoor.Dv

/-- The guess is not too low. -/
theorem guess_ge {K a w dh dl d : Nat} (hd : d = dh * K + dl) (hw : w < K) (h0 : 0 < dh) : (a * K + w) / d ≤ a / dh := by
  rw [Nat.le_div_iff_mul_le h0]
  have h := Nat.div_mul_le_self (a * K + w) d
  generalize (a * K + w) / d = Q at *
  have h1 : Q * dh * K ≤ Q * d := by
    rw [Nat.mul_assoc]
    exact Nat.mul_le_mul_left Q (by omega)
  have h2 : Q * dh * K < (a + 1) * K := by
    rw [Nat.add_mul, Nat.one_mul]
    omega
  have := Nat.lt_of_mul_lt_mul_right h2
  omega
theorem quo_lt {K a w d : Nat} (hd : a < d) (hw : w < K) : (a * K + w) / d < K := by
  rw [Nat.div_lt_iff_lt_mul (by omega)]
  have := Nat.mul_le_mul_right K (Nat.succ_le_of_lt hd)
  rw [Nat.succ_mul, Nat.mul_comm d] at this
  omega
/-- One less of a guess that is too great is not too low. -/
theorem less {A d q : Nat} (hd : 0 < d) (_h : A / d ≤ q) (k : A < q * d) : A / d ≤ q - 1 ∧ 0 < q ∧ (q - 1) * d + d = q * d := by
  have h1 : A / d < q := (Nat.div_lt_iff_lt_mul hd).2 k
  generalize A / d = Q at *
  obtain ⟨j, rfl⟩ : ∃ j, q = j + 1 := ⟨q - 1, by omega⟩
  refine ⟨by omega, by omega, ?_⟩
  rw [Nat.add_sub_cancel, Nat.add_mul, Nat.one_mul]
theorem done {A d q : Nat} (hd : 0 < d) (h : A / d ≤ q) (k : q * d ≤ A) : q = A / d ∧ A - q * d < d ∧ q * d + (A - q * d) = A := by
  have e : q = A / d := Nat.le_antisymm ((Nat.le_div_iff_mul_le hd).2 k) h
  refine ⟨e, ?_, by omega⟩
  have := Nat.div_add_mod' A d
  have := Nat.mod_lt A hd
  rw [e]
  omega

/-- What is moved to the left. -/
theorem shifted {B S M hi lo lh t d : Nat} (e : M * S = B) (h : hi < d) (hl : lo < B) (hlh : lh = lo / M) (ht : t = lo % M * S) :
    (hi * S + lh) * B + t = (hi * B + lo) * S ∧ hi * S + lh < d * S ∧ lh < S := by
  have hM : 0 < M := by
    rcases Nat.eq_zero_or_pos M with z | z
    · subst z; rw [Nat.zero_mul] at e; omega
    · exact z
  have l : lh < S := by rw [hlh]; exact Nat.div_lt_of_lt_mul (by rw [e]; exact hl)
  refine ⟨?_, ?_, l⟩
  · subst hlh ht
    have e1 : lo * S = lo / M * B + lo % M * S := by
      conv => lhs; rw [← Nat.div_add_mod' lo M]
      rw [Nat.add_mul, Nat.mul_assoc, e]
    have e3 : (hi * B + lo) * S = hi * S * B + lo * S := by rw [Nat.add_mul, Nat.mul_right_comm]
    rw [e3, e1, Nat.add_mul]
    omega
  · have := Nat.mul_le_mul_right S (Nat.succ_le_of_lt h)
    rw [Nat.succ_mul] at this
    omega

/-- Both words of the quotient and what is left, together, moved back. -/
theorem final {K S d D A lh ll q1 q2 r1 r2 T : Nat} (hS : 0 < S) (hD : D = d * S) (hA : A * (K * K) + (lh * K + ll) = T * S)
    (e1 : q1 * D + r1 = A * K + lh) (e2 : q2 * D + r2 = r1 * K + ll) (hr : r2 < D) : r2 / S < d ∧ (q1 * K + q2) * d + r2 / S = T := by
  have e : (q1 * K + q2) * d * S + r2 = T * S := by
    rw [← hA, Nat.mul_assoc, ← hD, Nat.add_mul, Nat.mul_right_comm, Nat.add_assoc, e2, ← Nat.add_assoc, ← Nat.add_mul, e1, Nat.add_mul, Nat.mul_assoc, Nat.add_assoc]
  refine ⟨Nat.div_lt_of_lt_mul (by rw [Nat.mul_comm, ← hD]; exact hr), ?_⟩
  have e2 := congrArg (· / S) e
  simp only [Nat.mul_div_cancel _ hS] at e2
  rw [Nat.add_comm, Nat.add_mul_div_right _ _ hS] at e2
  omega
end Go.Proofs.YtkkddflclakphaaDoor.Dv

/-
  What the words' functions of the program do: math/bits' Add64, Sub64, Mul64, and of package wide the sums, differences, comparisons and products, each as a contract of its call.
-/
namespace Go.Proofs.YtkkddflclakphaaDoor
open Go.RowKit

/-- A word. -/
def Word (x : Int) : Prop := 0 ≤ x ∧ x < 18446744073709551616

theorem add64 (x y c : Int) (hx : 0 ≤ x) (hy : 0 ≤ y) (hc0 : 0 ≤ c) (hc : c ≤ 1) (w : World) :
    (callFunc 81 #[.int .u64 x, .int .u64 y, .int .u64 c]).run Tryd.prog w =
      .ok (.value (.tuple #[.int .u64 ((x + y + c) % 18446744073709551616), .int .u64 ((x + y + c) / 18446744073709551616)])) w := by
  rw [run_callFunc_extern Tryd.func81 (by kernel_rfl) (by kernel_rfl) (by kernel_rfl) (e := add64Entry) (by kernel_rfl), run_add64 x y c hx hy hc0 hc]
  simp only [Result.andThen]

/-- The borrow. -/
def bor (x y : Int) : Int := if x < y then 1 else 0

theorem sub64 (x y b : Int) (hx : 0 ≤ x) (hy : 0 ≤ y) (hy' : y < 18446744073709551616) (hb0 : 0 ≤ b) (hb : b ≤ 1) (w : World) :
    (callFunc 99 #[.int .u64 x, .int .u64 y, .int .u64 b]).run Tryd.prog w =
      .ok (.value (.tuple #[.int .u64 ((x - y - b) % 18446744073709551616), .int .u64 (bor x (y + b))])) w := by
  rw [run_callFunc_extern Tryd.func99 (by kernel_rfl) (by kernel_rfl) (by kernel_rfl) (e := sub64Entry) (by kernel_rfl)]
  obtain ⟨x, rfl⟩ := Int.eq_ofNat_of_zero_le hx
  obtain ⟨y, rfl⟩ := Int.eq_ofNat_of_zero_le hy
  obtain ⟨b, rfl⟩ := Int.eq_ofNat_of_zero_le hb0
  have e1 : (((x + 18446744073709551616 - y - b) % 18446744073709551616 : Nat) : Int) = ((x : Int) - y - b) % 18446744073709551616 := by omega
  have e2 : ((if x < y + b then 1 else 0 : Nat) : Int) = bor x (y + b) := by unfold bor; split <;> split <;> omega
  rw [← e1, ← e2, run_sub64 x y b (by omega)]
  simp only [Result.andThen]

theorem add64_0 (x y : Int) (hx : 0 ≤ x) (hy : 0 ≤ y) (w : World) :
    (callFunc 81 #[.int .u64 x, .int .u64 y, .int .u64 0]).run Tryd.prog w =
      .ok (.value (.tuple #[.int .u64 ((x + y) % 18446744073709551616), .int .u64 ((x + y) / 18446744073709551616)])) w := by
  simpa using add64 x y 0 hx hy (Int.le_refl 0) (by decide) w
theorem sub64_0 (x y : Int) (hx : 0 ≤ x) (hy : 0 ≤ y) (hy' : y < 18446744073709551616) (w : World) :
    (callFunc 99 #[.int .u64 x, .int .u64 y, .int .u64 0]).run Tryd.prog w =
      .ok (.value (.tuple #[.int .u64 ((x - y) % 18446744073709551616), .int .u64 (bor x y)])) w := by
  simpa using sub64 x y 0 hx hy hy' (Int.le_refl 0) (by decide) w

/-! ### math/bits.Mul64 -/
theorem mul64 (x y : Nat) (hx : x < 18446744073709551616) (hy : y < 18446744073709551616) (w : World) :
    Calls Tryd.prog 80 #[.int .u64 x, .int .u64 y] w fun e w' => e = .returned (.tuple #[.int .u64 ((x * y / 18446744073709551616 : Nat) : Int), .int .u64 ((x * y % 18446744073709551616 : Nat) : Int)]) ∧ w = w' :=
  (Tryd.bits_Mul64 x y hx hy w).mono fun _ _ ⟨a, b⟩ => ⟨a, b.symm⟩

/-! ### Package wide: the shapes of what is handed back -/
/-- A number of two words. -/
abbrev U (h l : Nat) : Value := .agg #[.int .u64 (h : Int), .int .u64 (l : Int)]
/-- Two words below 2 to the 64. -/
def WW (h l : Nat) : Prop := h < 18446744073709551616 ∧ l < 18446744073709551616
/-- The number that two words are. -/
def nv (h l : Nat) : Nat := h * 18446744073709551616 + l
/-- 2 to the 128. -/
def B128 : Nat := 340282366920938463463374607431768211456

def RetUW (F : Nat → Nat → Nat → Prop) (w : World) (e : Ending) (w' : World) : Prop :=
  ∃ h l c : Nat, F h l c ∧ e = .returned (.tuple #[U h l, .int .u64 (c : Int)]) ∧ Below w.heap.size w w'
def RetWU (F : Nat → Nat → Nat → Prop) (w : World) (e : Ending) (w' : World) : Prop :=
  ∃ o h l : Nat, F o h l ∧ e = .returned (.tuple #[.int .u64 (o : Int), U h l]) ∧ Below w.heap.size w w'
def RetUUW (F : Nat → Nat → Nat → Nat → Nat → Prop) (w : World) (e : Ending) (w' : World) : Prop :=
  ∃ h l h' l' c : Nat, F h l h' l' c ∧ e = .returned (.tuple #[U h l, U h' l', .int .u64 (c : Int)]) ∧ Below w.heap.size w w'
def RetUU (F : Nat → Nat → Nat → Nat → Prop) (w : World) (e : Ending) (w' : World) : Prop :=
  ∃ h l h' l' : Nat, F h l h' l' ∧ e = .returned (.tuple #[U h l, U h' l']) ∧ Below w.heap.size w w'
def RetI (n : Int) (w : World) (e : Ending) (w' : World) : Prop := e = .returned (.int .i64 n) ∧ Below w.heap.size w w'
def RetB (b : Bool) (w : World) (e : Ending) (w' : World) : Prop := e = .returned (.bool b) ∧ Below w.heap.size w w'

/-- What a sum is. -/
def SumF (ah al bh bl k h l c : Nat) : Prop := WW h l ∧ c ≤ 1 ∧ nv h l + c * B128 = nv ah al + nv bh bl + k
/-- What a difference is. -/
def SubF (ah al bh bl k h l c : Nat) : Prop := WW h l ∧ c ≤ 1 ∧ nv h l + nv bh bl + k = nv ah al + c * B128

theorem ret_uw {h l c : Nat} {h' l' c' : Int} (a : h' = h) (b : l' = l) (d : c' = c) : Ending.returned (.tuple #[.agg #[.int .u64 h', .int .u64 l'], .int .u64 c']) = .returned (.tuple #[U h l, .int .u64 (c : Int)]) := by rw [a, b, d]
theorem ret_wu {h l c : Nat} {h' l' c' : Int} (a : h' = h) (b : l' = l) (d : c' = c) : Ending.returned (.tuple #[.int .u64 c', .agg #[.int .u64 h', .int .u64 l']]) = .returned (.tuple #[.int .u64 (c : Int), U h l]) := by rw [a, b, d]

theorem sumF_mk (ah al bh bl k : Nat) (ha : WW ah al) (hb : WW bh bl) (hk : k ≤ 1) :
    SumF ah al bh bl k ((ah + bh + (al + bl + k) / 18446744073709551616) % 18446744073709551616) ((al + bl + k) % 18446744073709551616) ((ah + bh + (al + bl + k) / 18446744073709551616) / 18446744073709551616) := by
  obtain ⟨_, _⟩ := ha; obtain ⟨_, _⟩ := hb
  unfold SumF WW nv B128
  refine ⟨⟨by omega, by omega⟩, by omega, by omega⟩

set_option maxHeartbeats 400000 in
theorem addCarry_any (ah al bh bl k : Nat) (ha : WW ah al) (hb : WW bh bl) (hk : k ≤ 1) (w : World) :
    Calls Tryd.prog 90 #[U ah al, U bh bl, .int .u64 (k : Int)] w (RetUW (SumF ah al bh bl k) w) := by
  have F := sumF_mk ah al bh bl k ha hb hk
  obtain ⟨_, _⟩ := ha; obtain ⟨_, _⟩ := hb
  have k0 : (0 : Int) ≤ ((al : Int) + bl + k) / 18446744073709551616 := by omega
  have k1 : ((al : Int) + bl + k) / 18446744073709551616 ≤ 1 := by omega
  go_enter Tryd.func90, Tryd.ntmps90
  go_wp2_with (first | simp only [add64 al bl k (Int.natCast_nonneg _) (Int.natCast_nonneg _) (Int.natCast_nonneg _) (by omega)] | simp only [add64 ah bh _ (Int.natCast_nonneg _) (Int.natCast_nonneg _) k0 k1])
  go_returns
  exact ⟨_, _, _, F, ret_uw (by omega) (by omega) (by omega), by go_grown⟩
end Go.Proofs.YtkkddflclakphaaDoor

/-
  Plain arithmetic of words that are shifted: no program in sight.
-/
namespace Go.Proofs.YtkkddflclakphaaDoor.Sh

theorem or_sum {x y s : Nat} (h : y < 2 ^ s) : 2 ^ s * x ||| y = 2 ^ s * x + y := (Nat.two_pow_add_eq_or_of_lt h x).symm
theorem or_sum' {x y s : Nat} (h : y < 2 ^ s) : y ||| x * 2 ^ s = x * 2 ^ s + y := by
  rw [Nat.or_comm, Nat.mul_comm x, or_sum h]
theorem or_sum'' {x y s : Nat} (h : y < 2 ^ s) : x * 2 ^ s ||| y = x * 2 ^ s + y := by
  rw [Nat.mul_comm x, or_sum h]

theorem pow64 {s : Nat} (h : s ≤ 63) : 2 ^ (64 - s) * 2 ^ s = 18446744073709551616 := by
  rw [← Nat.pow_add, show 64 - s + s = 64 by omega]

variable {K M B : Nat}
theorem mul_mod_of (e : M * K = B) (x : Nat) : x * K % B = x % M * K := by rw [← e, Nat.mul_mod_mul_right]
theorem mul_mod_of' (e : M * K = B) (x : Nat) : x * M % B = x % K * M := by rw [← e, Nat.mul_comm M K, Nat.mul_mod_mul_right]

/-- To the right. -/
theorem right_val (e : M * K = B) (hK : 0 < K) (h l : Nat) : h / K * B + (h % K * M + l / K) = (h * B + l) / K := by
  have e1 : h * B + l = h * M * K + l := by rw [← e, Nat.mul_assoc]
  rw [e1, Nat.add_comm (h * M * K), Nat.add_mul_div_right _ _ hK]
  have e2 : h * M = h / K * B + h % K * M := by
    conv => lhs; rw [← Nat.div_add_mod' h K]
    rw [Nat.add_mul, Nat.mul_assoc, Nat.mul_comm K M, e]
  rw [e2]; omega
/-- To the left: what is left of it below B times B. -/
theorem left_val (e : M * K = B) (h l : Nat) : (h % M * K + l / M) * B + l % M * K + h / M * (B * B) = (h * B + l) * K := by
  have e1 : l * K = l / M * B + l % M * K := by
    conv => lhs; rw [← Nat.div_add_mod' l M]
    rw [Nat.add_mul, Nat.mul_assoc, e]
  have e2 : h * K = h / M * B + h % M * K := by
    conv => lhs; rw [← Nat.div_add_mod' h M]
    rw [Nat.add_mul, Nat.mul_assoc, e]
  have e3 : (h * B + l) * K = h * K * B + l * K := by rw [Nat.add_mul, Nat.mul_right_comm]
  rw [e3, e1, e2, Nat.add_mul, Nat.add_mul, Nat.mul_assoc (h / M)]
  omega
theorem left_lt (e : M * K = B) (hK : 0 < K) (hM : 0 < M) (h l : Nat) (hl : l < B) : h % M * K + l / M < B ∧ l % M * K < B := by
  have h1 : h % M + 1 ≤ M := Nat.mod_lt _ hM
  have h2 := Nat.mul_le_mul_right K h1
  have h3 : l / M < K := Nat.div_lt_of_lt_mul (by rw [e]; exact hl)
  have h4 : l % M + 1 ≤ M := Nat.mod_lt _ hM
  have h5 := Nat.mul_le_mul_right K h4
  rw [Nat.add_mul, Nat.one_mul, e] at h2 h5
  omega
theorem right_lt (e : M * K = B) (hK : 0 < K) (h l : Nat) (hh : h < B) (hl : l < B) : h / K < B ∧ l / K < M ∧ h % K * M + l / K < B := by
  have h1 : h / K ≤ h := Nat.div_le_self _ _
  have h3 : l / K < M := Nat.div_lt_of_lt_mul (by rw [Nat.mul_comm, e]; exact hl)
  have h4 : h % K + 1 ≤ K := Nat.mod_lt _ hK
  have h5 := Nat.mul_le_mul_right M h4
  rw [Nat.add_mul, Nat.one_mul, Nat.mul_comm K M, e] at h5
  omega
end Go.Proofs.YtkkddflclakphaaDoor.Sh

/-
  Plain arithmetic of a division by halves of words: no program in sight.
-/
namespace Go.Proofs.YtkkddflclakphaaDoor

/-- Where the search for a digit stands: q is the guess, r what is left by the high half. -/
def StepF (u v1 v0 u0 q r : Nat) : Prop := q * v1 + r = u ∧ r < 4294967296 ∧ (u * 4294967296 + u0) / (v1 * 4294967296 + v0) ≤ q ∧ q ≤ 4294967297
/-- What a divisor and a dividend are. -/
def StepPre (u v1 v0 u0 : Nat) : Prop := u < v1 * 4294967296 + v0 ∧ 2147483648 ≤ v1 ∧ v1 < 4294967296 ∧ v0 < 4294967296 ∧ u0 < 4294967296

theorem times_v (q v1 v0 : Nat) : q * (v1 * 4294967296 + v0) = q * v1 * 4294967296 + q * v0 := by rw [Nat.mul_add, ← Nat.mul_assoc]

theorem step_lt {u v1 v0 u0 q : Nat} (p : StepPre u v1 v0 u0) {r : Nat} (e : q * v1 + r = u) : (u * 4294967296 + u0) / (v1 * 4294967296 + v0) < q ↔ r * 4294967296 + u0 < q * v0 := by
  obtain ⟨_, _, _, _, _⟩ := p
  rw [Nat.div_lt_iff_lt_mul (by omega), times_v]
  omega

theorem stepF_start {u v1 v0 u0 : Nat} (p : StepPre u v1 v0 u0) : StepF u v1 v0 u0 (u / v1) (u % v1) := by
  have p' := p
  obtain ⟨p1, p2, p3, p4, p5⟩ := p'
  have e : u / v1 * v1 + u % v1 = u := Nat.div_add_mod' u v1
  have hr : u % v1 < v1 := Nat.mod_lt _ (by omega)
  refine ⟨e, by omega, ?_, ?_⟩
  · rw [Nat.le_div_iff_mul_le (by omega)]
    have h := Nat.div_mul_le_self (u * 4294967296 + u0) (v1 * 4294967296 + v0)
    rw [times_v] at h
    generalize (u * 4294967296 + u0) / (v1 * 4294967296 + v0) = Q at *
    have : 0 ≤ Q * v0 := Nat.zero_le _
    omega
  · have h : u / v1 < 4294967298 := by
      rw [Nat.div_lt_iff_lt_mul (by omega)]
      omega
    omega

theorem step_Q {u v1 v0 u0 : Nat} (p : StepPre u v1 v0 u0) : (u * 4294967296 + u0) / (v1 * 4294967296 + v0) < 4294967296 := by
  obtain ⟨p1, p2, p3, p4, p5⟩ := p
  rw [Nat.div_lt_iff_lt_mul (by omega)]
  omega

/-- The guess is too great: one less. -/
theorem stepF_less {u v1 v0 u0 q r : Nat} (p : StepPre u v1 v0 u0) (f : StepF u v1 v0 u0 q r) (h : 4294967296 ≤ q ∨ r * 4294967296 + u0 < q * v0) :
    0 < q ∧ (r + v1 < 4294967296 → StepF u v1 v0 u0 (q - 1) (r + v1)) ∧ (4294967296 ≤ r + v1 → q - 1 = (u * 4294967296 + u0) / (v1 * 4294967296 + v0)) := by
  obtain ⟨f1, f2, f3, f4⟩ := f
  have hQ := step_Q p
  have lt : (u * 4294967296 + u0) / (v1 * 4294967296 + v0) < q := by
    rcases h with h | h
    · omega
    · exact (step_lt p f1).2 h
  have q0 : 0 < q := Nat.lt_of_le_of_lt (Nat.zero_le _) lt
  obtain ⟨k, rfl⟩ : ∃ k, q = k + 1 := ⟨q - 1, by omega⟩
  have e : k * v1 + (r + v1) = u := by rw [Nat.add_mul] at f1; omega
  have g := step_lt p e
  obtain ⟨p1, p2, p3, p4, p5⟩ := p
  refine ⟨by omega, fun h1 => ⟨e, h1, Nat.le_of_lt_succ lt, by omega⟩, fun h1 => ?_⟩
  generalize (u * 4294967296 + u0) / (v1 * 4294967296 + v0) = Q at *
  have hk : k * v0 ≤ 4294967296 * 4294967295 := Nat.mul_le_mul (by omega) (by omega)
  have : ¬ (r + v1) * 4294967296 + u0 < k * v0 := by omega
  have := mt g.1 this
  omega

/-- The guess is right. -/
theorem stepF_done {u v1 v0 u0 q r : Nat} (p : StepPre u v1 v0 u0) (f : StepF u v1 v0 u0 q r) (h : q * v0 ≤ r * 4294967296 + u0) : q = (u * 4294967296 + u0) / (v1 * 4294967296 + v0) := by
  obtain ⟨f1, f2, f3, f4⟩ := f
  have := mt (step_lt p f1).1 (by omega)
  generalize (u * 4294967296 + u0) / (v1 * 4294967296 + v0) = Q at *
  omega

/-- Both digits and what is left, together. -/
theorem div_final {D y K u t u1 u0 u2 Q P r Y : Nat} (hK : 0 < K) (hY : Y = y * K) (hD : u * 18446744073709551616 + t = D * K) (ht : t = u1 * 4294967296 + u0) (h1 : Q * Y + u2 = u * 4294967296 + u1) (h2 : P * Y + r = u2 * 4294967296 + u0) (hr : r < Y) :
    r / K < y ∧ (Q * 4294967296 + P) * y + r / K = D := by
  have e : (Q * 4294967296 + P) * y * K + r = D * K := by
    have e1 : (Q * 4294967296 + P) * y * K = Q * Y * 4294967296 + P * Y := by rw [Nat.mul_assoc, ← hY, Nat.add_mul, Nat.mul_right_comm]
    rw [e1, Nat.add_assoc, h2, ← Nat.add_assoc, ← Nat.add_mul, h1, ← hD, ht, Nat.add_mul, Nat.mul_assoc, ← Nat.add_assoc]
  refine ⟨Nat.div_lt_of_lt_mul (by rw [Nat.mul_comm, ← hY]; exact hr), ?_⟩
  have e2 := congrArg (· / K) e
  simp only [Nat.mul_div_cancel _ hK] at e2
  rw [Nat.add_comm, Nat.add_mul_div_right _ _ hK] at e2
  omega
end Go.Proofs.YtkkddflclakphaaDoor

/-
  math/bits.Div64 as a contract of its call: the quotient of two words by a word that is greater than the high one, and what is left.
-/
namespace Go.Proofs.YtkkddflclakphaaDoor
open Go.RowKit

theorem wrapMul' (x k : Nat) : IntKind.u64.wrap ((x : Int) * 2 ^ k) = ((x * 2 ^ k % 18446744073709551616 : Nat) : Int) := by
  rw [IntKind.wrap_u64]; simp
theorem divPow' (x k : Nat) : (x : Int) / 2 ^ k = ((x / 2 ^ k : Nat) : Int) := by simp
/-- How far a word is to be shifted so that its highest bit is set. -/
def LzF (y s : Nat) : Prop := s ≤ 63 ∧ 9223372036854775808 ≤ y * 2 ^ s ∧ y * 2 ^ s < 18446744073709551616

theorem lzF_mk (y : Nat) (h0 : 0 < y) (h1 : y < 18446744073709551616) : ∃ s : Nat, LzF y s ∧ (64 - (Lib.bitLen y : Int)) = s := by
  obtain ⟨a, b, c⟩ := Lib.bitLenAux_bounds 64 y (by simpa using h1) (by omega)
  have d : Lib.bitLen y ≤ 64 := Lib.bitLen_le y 64 (Nat.le_refl _) (by simpa using h1)
  have e : Lib.bitLenAux 64 y = Lib.bitLen y := rfl
  rw [e] at a b c
  refine ⟨64 - Lib.bitLen y, ⟨by omega, ?_, ?_⟩, by omega⟩
  · have := Nat.mul_le_mul_right (2 ^ (64 - Lib.bitLen y)) b
    rw [← Nat.pow_add, show Lib.bitLen y - 1 + (64 - Lib.bitLen y) = 63 by omega] at this
    exact this
  · have := Nat.mul_lt_mul_of_pos_right c (Nat.two_pow_pos (64 - Lib.bitLen y))
    rw [← Nat.pow_add, show Lib.bitLen y + (64 - Lib.bitLen y) = 64 by omega] at this
    exact this

theorem lz_any (y : Nat) (h0 : 0 < y) (h1 : y < 18446744073709551616) (w : World) :
    Calls Tryd.prog 60 #[.int .u64 (y : Int)] w fun e w' => ∃ s : Nat, LzF y s ∧ e = .returned (.int .i64 (s : Int)) ∧ w = w' := by
  obtain ⟨s, hs, e⟩ := lzF_mk y h0 h1
  refine (Tryd.bits_LeadingZeros64 (y : Int) w (by omega) (by omega)).mono fun e' w' ⟨a, b⟩ => ⟨s, hs, ?_, b.symm⟩
  rw [a, Int.toNat_natCast, e]

/-- The words that stand behind the shifts. -/
def ShF (hi lo y s Y v1 v0 u t u1 u0 : Nat) : Prop :=
  Y = y * 2 ^ s ∧ Y = v1 * 4294967296 + v0 ∧ u * 18446744073709551616 + t = (hi * 18446744073709551616 + lo) * 2 ^ s ∧ t = u1 * 4294967296 + u0 ∧ u < Y ∧ Y < 18446744073709551616 ∧ t < 18446744073709551616 ∧ 2147483648 ≤ v1 ∧ v1 < 4294967296 ∧ v0 < 4294967296 ∧ u1 < 4294967296 ∧ u0 < 4294967296

theorem shF_mk (hi lo y s : Nat) (h1 : hi < y) (h2 : lo < 18446744073709551616) (hL : LzF y s) :
    ∃ Y v1 v0 u t u1 u0 : Nat, ShF hi lo y s Y v1 v0 u t u1 u0 ∧ IntKind.u64.wrap ((y : Int) * 2 ^ s) = (Y : Int) ∧ (Y : Int) / 4294967296 = (v1 : Int) ∧ bits .and .u64 (Y : Int) 4294967295 = (v0 : Int) ∧
      bits BinOp.or IntKind.u64 (IntKind.u64.wrap ((hi : Int) * 2 ^ s)) ((lo : Int) / 2 ^ (64 - s)) = (u : Int) ∧ IntKind.u64.wrap ((lo : Int) * 2 ^ s) = (t : Int) ∧ (t : Int) / 4294967296 = (u1 : Int) ∧ bits .and .u64 (t : Int) 4294967295 = (u0 : Int) := by
  obtain ⟨l1, l2, l3⟩ := hL
  have e := Sh.pow64 l1
  have hp : 0 < 2 ^ s := Nat.two_pow_pos s
  obtain ⟨r2, r3⟩ := Sh.left_lt e hp (Nat.two_pow_pos (64 - s)) hi lo h2
  have v := Sh.left_val e hi lo
  have r4 : lo / 2 ^ (64 - s) < 2 ^ s := Nat.div_lt_of_lt_mul (by rw [e]; exact h2)
  have hh : hi * 2 ^ s < 18446744073709551616 := Nat.lt_trans (Nat.mul_lt_mul_of_pos_right h1 hp) l3
  have hq : hi / 2 ^ (64 - s) = 0 := Nat.div_eq_of_lt (by
    rcases Nat.lt_or_ge hi (2 ^ (64 - s)) with h | h
    · exact h
    · have := Nat.mul_le_mul_right (2 ^ s) h
      rw [e] at this
      omega)
  rw [hq, Nat.zero_mul, Nat.add_zero] at v
  have hy : y * 2 ^ s < 18446744073709551616 := l3
  refine ⟨y * 2 ^ s, y * 2 ^ s / 4294967296, y * 2 ^ s % 4294967296, hi % 2 ^ (64 - s) * 2 ^ s + lo / 2 ^ (64 - s), lo % 2 ^ (64 - s) * 2 ^ s, lo % 2 ^ (64 - s) * 2 ^ s / 4294967296, lo % 2 ^ (64 - s) * 2 ^ s % 4294967296, ?_, ?_, ?_, ?_, ?_, ?_, ?_, ?_⟩
  · refine ⟨rfl, by omega, v, by omega, ?_, hy, r3, by omega, by omega, Nat.mod_lt _ (by decide), by omega, Nat.mod_lt _ (by decide)⟩
    have m := Nat.mul_le_mul_right (2 ^ s) (Nat.succ_le_of_lt h1)
    rw [Nat.succ_mul] at m
    have m2 : hi % 2 ^ (64 - s) * 2 ^ s ≤ hi * 2 ^ s := Nat.mul_le_mul_right _ (Nat.mod_le _ _)
    omega
  · rw [wrapMul', Nat.mod_eq_of_lt hy]
  · omega
  · exact Mul64.maskN _ hy
  · rw [wrapMul', divPow', Sh.mul_mod_of e, bits_or_u64_nat _ _ (Nat.lt_of_le_of_lt (Nat.le_add_right _ _) r2) (Nat.lt_of_le_of_lt (Nat.le_add_left _ _) r2), Sh.or_sum'' r4]
  · rw [wrapMul', Sh.mul_mod_of e]
  · omega
  · exact Mul64.maskN _ r3

def LoopR (u v1 v0 u0 Q : Nat) (q r : Value) : Prop := ∃ R : Nat, StepF u v1 v0 u0 Q R ∧ q = .int .u64 (Q : Int) ∧ r = .int .u64 (R : Int)
def OutR (u v1 v0 u0 : Nat) (q : Value) : Prop := ∃ Q : Nat, Q = (u * 4294967296 + u0) / (v1 * 4294967296 + v0) ∧ q = .int .u64 (Q : Int)
theorem named (x : Nat) : ∃ i : Int, i = (x : Int) := ⟨_, rfl⟩
theorem ret_two {a b c d : Int} (h : a = c) (k : b = d) : Value.tuple #[.int .u64 a, .int .u64 b] = Value.tuple #[.int .u64 c, .int .u64 d] := by rw [h, k]
theorem int_eq {k : IntKind} {a b : Int} (h : a = b) : Value.int k a = Value.int k b := by rw [h]

theorem start_words {u v1 v0 u0 : Nat} (p : StepPre u v1 v0 u0) :
    ∃ q r : Nat, StepF u v1 v0 u0 q r ∧ (u : Int) / v1 = q ∧ IntKind.u64.wrap ((u : Int) - IntKind.u64.wrap ((q : Int) * v1)) = r := by
  have f := stepF_start p
  refine ⟨_, _, f, ?_, ?_⟩
  · simp
  · obtain ⟨f1, _, _, _⟩ := f
    rw [Mul64.mulN, IntKind.wrap_u64, IntKind.wrap_u64]
    generalize u / v1 * v1 = m at *
    omega

/-- What is left behind the first digit. -/
theorem rest_words {u u1 Y Q : Nat} (hY : 0 < Y) (hY' : Y < 18446744073709551616) (hQ : Q = (u * 4294967296 + u1) / Y) :
    ∃ a1 a2 a3 : Int, IntKind.u64.wrap ((u : Int) * 4294967296) = a1 ∧ IntKind.u64.wrap (a1 + (u1 : Int)) = a2 ∧ IntKind.u64.wrap ((Q : Int) * Y) = a3 ∧ IntKind.u64.wrap (a2 - a3) = (((u * 4294967296 + u1) % Y : Nat) : Int) := by
  refine ⟨_, _, _, rfl, rfl, rfl, ?_⟩
  have e := Nat.div_add_mod' (u * 4294967296 + u1) Y
  have l : (u * 4294967296 + u1) % Y < Y := Nat.mod_lt _ hY
  rw [← hQ] at e
  rw [Mul64.mulN]
  simp only [IntKind.wrap_u64]
  generalize (u * 4294967296 + u1) % Y = r at *
  generalize Q * Y = m at *
  omega

set_option maxRecDepth 100000 in
set_option maxHeartbeats 1000000 in
theorem div64_any (hi lo y : Nat) (h1 : hi < y) (h2 : lo < 18446744073709551616) (h3 : y < 18446744073709551616) (h4 : 0 < hi) (w : World) :
    Calls Tryd.prog 83 #[.int .u64 (hi : Int), .int .u64 (lo : Int), .int .u64 (y : Int)] w fun e w' => ∃ q r : Nat, (q < 18446744073709551616 ∧ r < y ∧ q * y + r = hi * 18446744073709551616 + lo) ∧ e = .returned (.tuple #[.int .u64 (q : Int), .int .u64 (r : Int)]) ∧ w = w' := by
  have t1 : ((y : Int) == 0) = false := by simp; omega
  have t2 : ((hi : Int) == 0) = false := by simp; omega
  have t3 : ¬ (y ≤ hi) := by omega
  go_enter Tryd.func83, Tryd.ntmps83
  go_wp2_with fail
  refine (lz_any y (by omega) h3 _).mono ?_
  rintro e w1 ⟨s, L, rfl, rfl⟩
  obtain ⟨Y, v1, v0, u, t, u1, u0, SF, e1, e2, e3, e4, e5, e6, e7⟩ := shF_mk hi lo y s h1 h2 L
  have s63 : s ≤ 63 := L.1
  have SH := Lib.hid SF
  obtain ⟨_, _, _, _, b1, b2, b3, b4, b5, b6, b7, b8⟩ := SF
  rename_i c1 c2 c3 c4
  have p1 : StepPre u v1 v0 u1 := ⟨by omega, b4, b5, b6, b7⟩
  obtain ⟨q0, r0, f0, e8, e9⟩ := start_words p1
  have F0 := Lib.hid f0
  clear f0 c1 c2 c3 c4
  obtain ⟨Yi, hY⟩ := named Y
  obtain ⟨vi, hv⟩ := named v1
  obtain ⟨zi, hz⟩ := named v0
  obtain ⟨ui, hu⟩ := named u
  obtain ⟨ti, ht⟩ := named t
  obtain ⟨xi, hx⟩ := named u1
  obtain ⟨oi, ho⟩ := named u0
  obtain ⟨qi, hq⟩ := named q0
  obtain ⟨ri, hr⟩ := named r0
  rw [← hv, ← hu, ← hq] at e8
  rw [← hv, ← hu, ← hq, ← hr] at e9
  rw [← hY] at e1 e2 e3
  rw [← hv] at e2
  rw [← hz] at e3
  rw [← hu] at e4
  rw [← ht] at e5 e6 e7
  rw [← hx] at e6
  rw [← ho] at e7
  obtain ⟨k1, k2, k3, k4, k5, k6⟩ : (0 ≤ Yi ∧ Yi < 18446744073709551616) ∧ (2147483648 ≤ vi ∧ vi < 4294967296) ∧ (0 ≤ zi ∧ zi < 4294967296) ∧ (0 ≤ xi ∧ xi < 4294967296) ∧ (0 ≤ oi ∧ oi < 4294967296) ∧ (0 ≤ ui ∧ ui < 18446744073709551616) := by omega
  have HY := Lib.hid hY
  have HV := Lib.hid hv
  have HZ := Lib.hid hz
  have HU := Lib.hid hu
  have HX := Lib.hid hx
  have HO := Lib.hid ho
  have HQ := Lib.hid hq
  have HR := Lib.hid hr
  clear hY hv hz hu ht hx ho hq hr b1 b2 b3 b4 b5 b6 b7 b8
  obtain ⟨k2, k2'⟩ := k2
  obtain ⟨k3, k3'⟩ := k3
  obtain ⟨k4, k4'⟩ := k4
  obtain ⟨k6, k6'⟩ := k6
  go_upto_block 0 with fail
  go_cut [15, 16] (fun q r W => w = W ∧ OutR u v1 v0 u1 q)
  case first =>
    go_wp2_with fail
    go_loopg [15, 16] q0 (fun k q r W => w = W ∧ LoopR u v1 v0 u1 k q r)
    case atStart => exact ⟨rfl, r0, F0.out, int_eq (e8.trans HQ.out), int_eq HR.out⟩
    case round =>
      clear F0 e1 e2 e3 e4 e5 e6 e7 e8 e9 t1 t2 t3 h1 h2 h3 h4 s63
      obtain ⟨rfl, R, f, rfl, rfl⟩ := hrel
      have FF := Lib.hid f
      obtain ⟨Qi, hQi⟩ := named gk
      obtain ⟨Ri, hRi⟩ := named R
      have r1 : 0 ≤ Ri ∧ Ri < 4294967296 := by have := f.2.1; omega
      obtain ⟨r1, r1'⟩ := r1
      have q1 : Qi ≤ 4294967297 := by have := f.2.2.2; omega
      clear f
      rw [← hQi, ← hRi]
      have HQi := Lib.hid hQi
      have HRi := Lib.hid hRi
      rcases Int.lt_or_le Qi 4294967296 with hQ | hQ
      · have q2 : 0 ≤ Qi := by omega
        have m1 : IntKind.u64.wrap (Qi * zi) = ((gk * v0 : Nat) : Int) := by
          rw [hQi, HZ.out, Mul64.mulN]
          have : gk ≤ 4294967295 := by omega
          have : v0 ≤ 4294967295 := by have := HZ.out; omega
          exact Mul64.wrapN _ (Nat.lt_of_le_of_lt (Nat.mul_le_mul ‹gk ≤ 4294967295› ‹v0 ≤ 4294967295›) (by decide))
        obtain ⟨mi, hm⟩ := named (gk * v0)
        rw [← hm] at m1
        have HM := Lib.hid hm
        clear hm
        rcases Int.lt_or_le (4294967296 * Ri + xi) mi with hC | hC
        · obtain ⟨g1, g2, g3⟩ := stepF_less p1 FF.out (.inr (by have := HM.out; have := HX.out; omega))
          have G2 := Lib.hid g2
          have G3 := Lib.hid g3
          have q3 : 0 < Qi := by omega
          clear g1 g2 g3 hQi hRi
          rcases Int.lt_or_le (Ri + vi) 4294967296 with hR | hR
          · go_wp2
            go_roundg (gk - 1)
            case measure => have := HQi.out; omega
            case rel => exact ⟨rfl, R + v1, G2.out (by have := HRi.out; have := HV.out; omega), int_eq (by have := HQi.out; omega), int_eq (by have := HRi.out; have := HV.out; omega)⟩
          · go_wp2
            go_meet
            case rel => exact ⟨rfl, gk - 1, G3.out (by have := HRi.out; have := HV.out; omega), int_eq (by have := HQi.out; omega)⟩
        · have D := Lib.hid (stepF_done p1 FF.out (by have := HM.out; have := HX.out; omega))
          clear hQi hRi
          go_wp2
          go_meet
          case rel => exact ⟨rfl, gk, D.out, int_eq HQi.out⟩
      · obtain ⟨g1, g2, g3⟩ := stepF_less p1 FF.out (.inl (by omega))
        have G2 := Lib.hid g2
        have G3 := Lib.hid g3
        clear g1 g2 g3 hQi hRi
        rcases Int.lt_or_le (Ri + vi) 4294967296 with hR | hR
        · go_wp2
          go_roundg (gk - 1)
          case measure => have := HQi.out; omega
          case rel => exact ⟨rfl, R + v1, G2.out (by have := HRi.out; have := HV.out; omega), int_eq (by have := HQi.out; omega), int_eq (by have := HRi.out; have := HV.out; omega)⟩
        · go_wp2
          go_meet
          case rel => exact ⟨rfl, gk - 1, G3.out (by have := HRi.out; have := HV.out; omega), int_eq (by have := HQi.out; omega)⟩
  case rest =>
    obtain ⟨rfl, Q, hQ, rfl⟩ := hcut
    have hYv : Y = v1 * 4294967296 + v0 := SH.out.2.1
    obtain ⟨y1, y2⟩ : 0 < Y ∧ Y < 18446744073709551616 := by have := HY.out; have := HV.out; omega
    rw [← hYv] at hQ
    obtain ⟨a1, a2, a3, x1, x2, x3, x4⟩ := rest_words y1 y2 hQ
    have l2 : (u * 4294967296 + u1) % Y < Y := Nat.mod_lt _ y1
    have dm := Lib.hid (Nat.div_add_mod' (u * 4294967296 + u1) Y)
    have HQ1 := Lib.hid hQ
    generalize (u * 4294967296 + u1) % Y = u2 at *
    have p2 : StepPre u2 v1 v0 u0 := by
      obtain ⟨_, _, _, p4, _⟩ := p1
      exact ⟨by omega, by have := HV.out; omega, by have := HV.out; omega, p4, by have := HO.out; omega⟩
    obtain ⟨q2, r2, f2, e10, e11⟩ := start_words p2
    have F2 := Lib.hid f2
    obtain ⟨wi, hw⟩ := named u2
    obtain ⟨Qi, hQi⟩ := named Q
    obtain ⟨si, hs⟩ := named q2
    obtain ⟨gi, hg⟩ := named r2
    rw [← HU.out] at x1
    rw [← HX.out] at x2
    rw [← hQi, ← HY.out] at x3
    rw [← hw] at x4
    rw [← hw, ← HV.out, ← hs] at e10
    rw [← hw, ← HV.out, ← hs, ← hg] at e11
    rw [← hQi]
    have w1 : 0 ≤ wi ∧ wi < 18446744073709551616 := by omega
    obtain ⟨w1, w2⟩ := w1
    have HW := Lib.hid hw
    have HQi := Lib.hid hQi
    have HS := Lib.hid hs
    have HG := Lib.hid hg
    have HYv := Lib.hid hYv
    have L2 := Lib.hid l2
    clear hw hQi hs hg f2 hQ hYv l2 y1 y2 F0
    obtain ⟨P, hP⟩ : ∃ P : Nat, P = (u2 * 4294967296 + u0) / Y := ⟨_, rfl⟩
    have Pb : P < 4294967296 := by have := step_Q p2; rw [← HYv.out, ← hP] at this; exact this
    have Qb : Qi < 4294967296 := by have := step_Q p1; rw [← HYv.out, ← HQ1.out] at this; have := HQi.out; omega
    have Qb0 : 0 ≤ Qi := by have := HQi.out; omega
    obtain ⟨y1, y2⟩ : 0 < Y ∧ Y < 18446744073709551616 := by have := HY.out; omega
    obtain ⟨c1, c2, c3, z1, z2, z3, z4⟩ := rest_words y1 y2 hP
    have l4 : (u2 * 4294967296 + u0) % Y < Y := Nat.mod_lt _ y1
    have dm2 := Lib.hid (Nat.div_add_mod' (u2 * 4294967296 + u0) Y)
    have HP := Lib.hid hP
    generalize (u2 * 4294967296 + u0) % Y = rr at *
    have L4 := Lib.hid l4
    clear hP l4 y1 y2
    go_upto_block 2 with fail
    go_cut [18, 16] (fun q r W => w = W ∧ OutR u2 v1 v0 u0 q)
    case first =>
      go_wp2_with fail
      go_loopg [18, 16] q2 (fun k q r W => w = W ∧ LoopR u2 v1 v0 u0 k q r)
      case atStart => exact ⟨rfl, r2, F2.out, int_eq (e10.trans HS.out), int_eq HG.out⟩
      case round =>
        clear F2 e1 e2 e3 e4 e5 e6 e7 e8 e9 e10 e11 t1 t2 t3 h1 h2 h3 h4 s63 x1 x2 x3 x4 z1 z2 z3 z4
        obtain ⟨rfl, R, f, rfl, rfl⟩ := hrel
        have FF := Lib.hid f
        obtain ⟨Pi, hPi⟩ := named gk
        obtain ⟨Ri, hRi⟩ := named R
        have r1 : 0 ≤ Ri ∧ Ri < 4294967296 := by have := f.2.1; omega
        obtain ⟨r1, r1'⟩ := r1
        have q1 : Pi ≤ 4294967297 := by have := f.2.2.2; omega
        clear f
        rw [← hPi, ← hRi]
        have HPi := Lib.hid hPi
        have HRi := Lib.hid hRi
        rcases Int.lt_or_le Pi 4294967296 with hQ | hQ
        · have q2 : 0 ≤ Pi := by omega
          have m1 : IntKind.u64.wrap (Pi * zi) = ((gk * v0 : Nat) : Int) := by
            rw [hPi, HZ.out, Mul64.mulN]
            have : gk ≤ 4294967295 := by omega
            have : v0 ≤ 4294967295 := by have := HZ.out; omega
            exact Mul64.wrapN _ (Nat.lt_of_le_of_lt (Nat.mul_le_mul ‹gk ≤ 4294967295› ‹v0 ≤ 4294967295›) (by decide))
          obtain ⟨mi, hm⟩ := named (gk * v0)
          rw [← hm] at m1
          have HM := Lib.hid hm
          clear hm
          rcases Int.lt_or_le (4294967296 * Ri + oi) mi with hC | hC
          · obtain ⟨g1, g2, g3⟩ := stepF_less p2 FF.out (.inr (by have := HM.out; have := HO.out; omega))
            have G2 := Lib.hid g2
            have G3 := Lib.hid g3
            have q3 : 0 < Pi := by omega
            clear g1 g2 g3 hPi hRi
            rcases Int.lt_or_le (Ri + vi) 4294967296 with hR | hR
            · go_wp2
              go_roundg (gk - 1)
              case measure => have := HPi.out; omega
              case rel => exact ⟨rfl, R + v1, G2.out (by have := HRi.out; have := HV.out; omega), int_eq (by have := HPi.out; omega), int_eq (by have := HRi.out; have := HV.out; omega)⟩
            · go_wp2
              go_meet
              case rel => exact ⟨rfl, gk - 1, G3.out (by have := HRi.out; have := HV.out; omega), int_eq (by have := HPi.out; omega)⟩
          · have D := Lib.hid (stepF_done p2 FF.out (by have := HM.out; have := HO.out; omega))
            clear hPi hRi
            go_wp2
            go_meet
            case rel => exact ⟨rfl, gk, D.out, int_eq HPi.out⟩
        · obtain ⟨g1, g2, g3⟩ := stepF_less p2 FF.out (.inl (by omega))
          have G2 := Lib.hid g2
          have G3 := Lib.hid g3
          clear g1 g2 g3 hPi hRi
          rcases Int.lt_or_le (Ri + vi) 4294967296 with hR | hR
          · go_wp2
            go_roundg (gk - 1)
            case measure => have := HPi.out; omega
            case rel => exact ⟨rfl, R + v1, G2.out (by have := HRi.out; have := HV.out; omega), int_eq (by have := HPi.out; omega), int_eq (by have := HRi.out; have := HV.out; omega)⟩
          · go_wp2
            go_meet
            case rel => exact ⟨rfl, gk - 1, G3.out (by have := HRi.out; have := HV.out; omega), int_eq (by have := HPi.out; omega)⟩
    case rest =>
      obtain ⟨rfl, P', hP', rfl⟩ := hcut
      obtain rfl : P' = P := by rw [hP', HP.out, HYv.out]
      clear hP' F2
      obtain ⟨Pi, hPi⟩ := named P'
      obtain ⟨ni, hn⟩ := named rr
      rw [← HW.out] at z1
      rw [← HO.out] at z2
      rw [← hPi, ← HY.out] at z3
      rw [← hn] at z4
      rw [← hPi]
      have Pb' : 0 ≤ Pi ∧ Pi < 4294967296 := by omega
      obtain ⟨Pb1, Pb2⟩ := Pb'
      have HPi := Lib.hid hPi
      have HN := Lib.hid hn
      clear hPi hn Pb
      go_wp2
      go_ret2
      have hK : 0 < 2 ^ s := Nat.two_pow_pos s
      obtain ⟨s1, s2, s3, s4, _⟩ := SH.out
      have e1' : Q * Y + u2 = u * 4294967296 + u1 := by rw [HQ1.out]; exact dm.out
      have e2' : P' * Y + rr = u2 * 4294967296 + u0 := by rw [HP.out]; exact dm2.out
      obtain ⟨o1, o2⟩ := div_final hK s1 s3 s4 e1' e2' L4.out
      refine ⟨Q * 4294967296 + P', rr / 2 ^ s, ⟨by have := HQi.out; have := HPi.out; omega, o1, o2⟩, ?_, rfl⟩
      refine congrArg Ending.returned (ret_two ?_ ?_)
      · have := HQi.out; have := HPi.out; omega
      · rw [HN.out]; exact divPow' _ _
end Go.Proofs.YtkkddflclakphaaDoor

/-
  Sums, differences, comparisons and products of package wide, each as a contract of its call.
-/
namespace Go.Proofs.YtkkddflclakphaaDoor
open Go.RowKit

theorem addCarry0 (ah al bh bl : Nat) (ha : WW ah al) (hb : WW bh bl) (w : World) :
    Calls Tryd.prog 90 #[U ah al, U bh bl, .int .u64 0] w (RetUW (SumF ah al bh bl 0) w) := addCarry_any ah al bh bl 0 ha hb (by omega) w


theorem lt6 {a b : Nat} (h : a + 6 ≤ b) : a < b ∧ a + 1 < b ∧ a + 1 + 1 < b ∧ a + 1 + 1 + 1 < b ∧ a + 1 + 1 + 1 + 1 < b ∧ a + 1 + 1 + 1 + 1 + 1 < b := by omega

/-- What a sum of 256 bits is. -/
def Sum2F (ah al bh bl ch cl dh dl h l h' l' c : Nat) : Prop := WW h l ∧ WW h' l' ∧ c ≤ 1 ∧ nv h l * B128 + nv h' l' + c * (B128 * B128) = nv ah al * B128 + nv bh bl + (nv ch cl * B128 + nv dh dl)
theorem sum2F_mk {ah al bh bl ch cl dh dl h l h' l' c k : Nat} (f : SumF bh bl dh dl 0 h' l' k) (g : SumF ah al ch cl k h l c) : Sum2F ah al bh bl ch cl dh dl h l h' l' c := by
  unfold SumF at f g
  unfold Sum2F
  refine ⟨g.1, f.1, g.2.1, ?_⟩
  have e1 := f.2.2
  have e2 := g.2.2
  generalize nv h l = x at *
  generalize nv h' l' = y at *
  generalize nv ah al = a at *
  generalize nv bh bl = b at *
  generalize nv ch cl = cc at *
  generalize nv dh dl = d at *
  unfold B128 at *
  omega

set_option maxHeartbeats 800000 in
theorem add2_any (ah al bh bl ch cl dh dl : Nat) (ha : WW ah al) (hb : WW bh bl) (hcc : WW ch cl) (hd : WW dh dl) (w : World) :
    Calls Tryd.prog 66 #[U ah al, U bh bl, U ch cl, U dh dl] w (RetUUW (Sum2F ah al bh bl ch cl dh dl) w) := by
  go_enter Tryd.func66, Tryd.ntmps66
  go_wp2_with fail
  refine (addCarry0 bh bl dh dl hb hd _).mono ?_
  rintro e w1 ⟨h', l', k, F, rfl, hb1⟩
  have Hb1 : Below w.heap.size w w1 := bstep (by go_grown) hb1
  obtain ⟨z0, z1, z2, z3, z4, z5⟩ := lt6 (by have := hb1.size; simp at this; omega : w.heap.size + 6 ≤ w1.heap.size)
  obtain ⟨hc, hf⟩ := bcell hb1
  clear hb1
  go_wp2_with fail
  refine (addCarry_any ah al ch cl k ha hcc F.2.1 _).mono ?_
  rintro e w2 ⟨h, l, c, G, rfl, hb2⟩
  have Hb2 : Below w.heap.size w w2 := bstep (by go_grown) hb2
  have y0 : w1.heap.size < w2.heap.size := by have := hb2.size; simp at this; omega
  obtain ⟨x0, x1, x2, x3, x4, x5⟩ := lt6 (by omega : w.heap.size + 6 ≤ w2.heap.size)
  obtain ⟨hc2, hf2⟩ := bcell hb2
  clear hb2
  go_wp2
  go_region
  all_goals
    go_wp2
    refine bodyPost_ret (v := .tuple #[U h l, U h' l', .int .u64 (c : Int)]) (by simp [results, Tryd.results66, go_sem, *]) rfl ⟨_, _, _, _, _, sum2F_mk F G, rfl, ?_⟩
    clear hc hf hc2 hf2
    go_grown

theorem subF_mk (ah al bh bl k : Nat) (ha : WW ah al) (hb : WW bh bl) (hk : k ≤ 1) :
    SubF ah al bh bl k (((ah : Int) - bh - bor al (bl + k)) % 18446744073709551616).toNat (((al : Int) - bl - k) % 18446744073709551616).toNat (bor ah (bh + bor al (bl + k))).toNat ∧ 0 ≤ bor al (bl + k) ∧ bor al (bl + k) ≤ 1 ∧ 0 ≤ bor ah (bh + bor al (bl + k)) ∧
      0 ≤ ((ah : Int) - bh - bor al (bl + k)) % 18446744073709551616 ∧ 0 ≤ ((al : Int) - bl - k) % 18446744073709551616 := by
  obtain ⟨_, _⟩ := ha; obtain ⟨_, _⟩ := hb
  unfold SubF WW nv B128 bor
  split <;> split <;> omega

set_option maxHeartbeats 400000 in
theorem subBorrow_any (ah al bh bl k : Nat) (ha : WW ah al) (hb : WW bh bl) (hk : k ≤ 1) (w : World) :
    Calls Tryd.prog 96 #[U ah al, U bh bl, .int .u64 (k : Int)] w (RetUW (SubF ah al bh bl k) w) := by
  obtain ⟨F, k0, k1, m0, m1, m2⟩ := subF_mk ah al bh bl k ha hb hk
  obtain ⟨_, _⟩ := ha; obtain ⟨_, _⟩ := hb
  go_enter Tryd.func96, Tryd.ntmps96
  go_wp2_with (first | simp only [sub64 al bl k (Int.natCast_nonneg _) (Int.natCast_nonneg _) (by omega) (Int.natCast_nonneg _) (by omega)] | simp only [sub64 ah bh _ (Int.natCast_nonneg _) (Int.natCast_nonneg _) (by omega) k0 k1])
  go_returns
  exact ⟨_, _, _, F, ret_uw (by omega) (by omega) (by omega), by go_grown⟩

theorem subBorrow0 (ah al bh bl : Nat) (ha : WW ah al) (hb : WW bh bl) (w : World) :
    Calls Tryd.prog 96 #[U ah al, U bh bl, .int .u64 0] w (RetUW (SubF ah al bh bl 0) w) := subBorrow_any ah al bh bl 0 ha hb (by omega) w

set_option maxHeartbeats 400000 in
theorem sub_any (ah al bh bl : Nat) (ha : WW ah al) (hb : WW bh bl) (w : World) :
    Calls Tryd.prog 86 #[U ah al, U bh bl] w (RetUW (SubF ah al bh bl 0) w) := by
  go_enter Tryd.func86, Tryd.ntmps86
  go_wp2_with fail
  refine (subBorrow0 ah al bh bl ha hb _).mono ?_
  rintro e w1 ⟨h, l, c, F, rfl, hb1⟩
  have Hb1 : Below w.heap.size w w1 := bstep (by go_grown) hb1
  obtain ⟨hc, hf⟩ := bcell hb1
  clear hb1
  go_wp2
  refine bodyPost_ret (v := .tuple #[U h l, .int .u64 (c : Int)]) (by simp [results, Tryd.results86, go_sem, hc]) rfl ⟨_, _, _, F, rfl, ?_⟩
  clear hc hf
  go_grown

/-- What a difference of 256 bits is. -/
def Sub2F (ah al bh bl ch cl dh dl h l h' l' c : Nat) : Prop := WW h l ∧ WW h' l' ∧ c ≤ 1 ∧ nv h l * B128 + nv h' l' + (nv ch cl * B128 + nv dh dl) = nv ah al * B128 + nv bh bl + c * (B128 * B128)
theorem sub2F_mk {ah al bh bl ch cl dh dl h l h' l' c k : Nat} (f : SubF bh bl dh dl 0 h' l' k) (g : SubF ah al ch cl k h l c) : Sub2F ah al bh bl ch cl dh dl h l h' l' c := by
  unfold SubF at f g
  unfold Sub2F
  refine ⟨g.1, f.1, g.2.1, ?_⟩
  have e1 := f.2.2
  have e2 := g.2.2
  generalize nv h l = x at *
  generalize nv h' l' = y at *
  generalize nv ah al = a at *
  generalize nv bh bl = b at *
  generalize nv ch cl = cc at *
  generalize nv dh dl = d at *
  unfold B128 at *
  omega

/-! ### Comparisons -/
/-- -1, 0 or 1. -/
def cmpN (a b : Nat) : Int := if a < b then -1 else if b < a then 1 else 0
theorem cmpN_lt {a b : Nat} (h : a < b) : cmpN a b = -1 := by unfold cmpN; rw [if_pos h]
theorem cmpN_gt {a b : Nat} (h : b < a) : cmpN a b = 1 := by unfold cmpN; rw [if_neg (by omega), if_pos h]
theorem cmpN_eq (a : Nat) : cmpN a a = 0 := by unfold cmpN; rw [if_neg (by omega), if_neg (by omega)]

set_option maxHeartbeats 400000 in
theorem compareU_any (a b : Nat) (w : World) : Calls Tryd.prog 82 #[.int .u64 (a : Int), .int .u64 (b : Int)] w fun e w' => e = .returned (.int .i64 (cmpN a b)) ∧ w = w' := by
  rcases Nat.lt_trichotomy a b with h | h | h
  · rw [cmpN_lt h]
    have h1 : (b < a) = False := by simp; omega
    go_enter Tryd.func82, Tryd.ntmps82
    go_wp2
    go_ret
    exact ⟨rfl, rfl⟩
  · subst h
    rw [cmpN_eq]
    go_enter Tryd.func82, Tryd.ntmps82
    go_wp2
    go_ret
    exact ⟨rfl, rfl⟩
  · rw [cmpN_gt h]
    have h1 : ¬ a < b := by omega
    go_enter Tryd.func82, Tryd.ntmps82
    go_wp2
    go_ret
    exact ⟨rfl, rfl⟩
end Go.Proofs.YtkkddflclakphaaDoor

/-
  Comparisons and products of package wide, each as a contract of its call.
-/
namespace Go.Proofs.YtkkddflclakphaaDoor
open Go.RowKit

theorem cmpN_words (ah al bh bl : Nat) (ha : WW ah al) (hb : WW bh bl) (h : ah ≠ bh) : cmpN ah bh = cmpN (nv ah al) (nv bh bl) := by
  obtain ⟨_, _⟩ := ha; obtain ⟨_, _⟩ := hb
  unfold cmpN nv
  split <;> split <;> (try split) <;> (try split) <;> (try rfl) <;> omega
theorem cmpN_low (ah al bl : Nat) : cmpN al bl = cmpN (nv ah al) (nv ah bl) := by
  unfold cmpN nv
  split <;> split <;> (try split) <;> (try split) <;> (try rfl) <;> omega

set_option maxHeartbeats 400000 in
theorem wcmp_any (ah al bh bl : Nat) (ha : WW ah al) (hb : WW bh bl) (w : World) :
    Calls Tryd.prog 58 #[U ah al, U bh bl] w (RetI (cmpN (nv ah al) (nv bh bl)) w) := by
  by_cases h : ah = bh
  · subst h
    rw [← cmpN_low ah al bl]
    go_enter Tryd.func58, Tryd.ntmps58
    go_wp2_with fail
    refine (compareU_any al bl _).mono ?_
    rintro e w1 ⟨rfl, rfl⟩
    go_wp2
    go_ret
    exact ⟨rfl, by go_grown⟩
  · rw [← cmpN_words ah al bh bl ha hb h]
    go_enter Tryd.func58, Tryd.ntmps58
    go_wp2_with fail
    refine (compareU_any ah bh _).mono ?_
    rintro e w1 ⟨rfl, rfl⟩
    go_wp2
    go_ret
    exact ⟨rfl, by go_grown⟩

theorem cmpN_range (a b : Nat) : (cmpN a b = -1 ∧ a < b) ∨ (cmpN a b = 0 ∧ a = b) ∨ (cmpN a b = 1 ∧ b < a) := by
  unfold cmpN
  split
  · left; omega
  · split
    · right; right; omega
    · right; left; omega

theorem nv_lt {h l : Nat} (h1 : WW h l) : nv h l < B128 := by obtain ⟨_, _⟩ := h1; unfold nv B128; omega
theorem nv_inj {h l h' l' : Nat} (a : WW h l) (b : WW h' l') (e : nv h l = nv h' l') : h = h' ∧ l = l' := by
  obtain ⟨_, _⟩ := a; obtain ⟨_, _⟩ := b; unfold nv at e; omega

/-- A number of 256 bits. -/
def nv2 (h l h' l' : Nat) : Nat := nv h l * B128 + nv h' l'

theorem cmp2_hi {ah al bh bl ch cl dh dl : Nat} (hb : WW bh bl) (hd : WW dh dl) (h : nv ah al ≠ nv ch cl) : cmpN (nv ah al) (nv ch cl) = cmpN (nv2 ah al bh bl) (nv2 ch cl dh dl) := by
  have := nv_lt hb; have := nv_lt hd
  unfold cmpN nv2
  generalize nv ah al = x at *
  generalize nv bh bl = y at *
  generalize nv ch cl = z at *
  generalize nv dh dl = t at *
  unfold B128 at *
  split <;> split <;> (try split) <;> (try split) <;> (try rfl) <;> omega
theorem cmp2_lo {ah al bh bl ch cl dh dl : Nat} (h : nv ah al = nv ch cl) : cmpN (nv bh bl) (nv dh dl) = cmpN (nv2 ah al bh bl) (nv2 ch cl dh dl) := by
  unfold cmpN nv2
  rw [h]
  generalize nv ch cl = z at *
  generalize nv bh bl = y at *
  generalize nv dh dl = t at *
  unfold B128 at *
  split <;> split <;> (try split) <;> (try split) <;> (try rfl) <;> omega

set_option maxHeartbeats 400000 in
theorem zero_any (h l : Nat) (w : World) : Calls Tryd.prog 33 #[U h l] w (RetB (decide (nv h l = 0)) w) := by
  by_cases h0 : h = 0
  · subst h0
    by_cases l0 : l = 0
    · subst l0
      rw [show decide (nv 0 0 = 0) = true from by decide]
      go_enter Tryd.func33, Tryd.ntmps33
      go_wp2
      go_ret
      exact ⟨rfl, by go_grown⟩
    · rw [show decide (nv 0 l = 0) = false from by unfold nv; simp; omega]
      have e1 : ((l : Int) == 0) = false := by simp; omega
      go_enter Tryd.func33, Tryd.ntmps33
      go_wp2
      go_ret
      exact ⟨rfl, by go_grown⟩
  · rw [show decide (nv h l = 0) = false from by unfold nv; simp; omega]
    have e1 : ((h : Int) == 0) = false := by simp; omega
    go_enter Tryd.func33, Tryd.ntmps33
    go_wp2
    go_ret
    exact ⟨rfl, by go_grown⟩

def RetU (F : Nat → Nat → Prop) (w : World) (e : Ending) (w' : World) : Prop := ∃ h l : Nat, F h l ∧ e = .returned (U h l) ∧ Below w.heap.size w w'
/-- Of hands back the word itself; the world has one new block. -/
theorem wof_any (x : Nat) (w : World) : Calls Tryd.prog 30 #[.int .u64 (x : Int)] w fun e w' => e = .returned (.agg #[.int .u64 0, .int .u64 (x : Int)]) ∧ ∃ c, w' = w.alloc (.cells c 31) := by
  go_enter Tryd.func30, Tryd.ntmps30
  go_wp2
  go_returns
  exact ⟨rfl, _, rfl⟩
end Go.Proofs.YtkkddflclakphaaDoor

/-
  Products of package wide, each as a contract of its call.
-/
namespace Go.Proofs.YtkkddflclakphaaDoor
open Go.RowKit

def MulF (x y p q : Nat) : Prop := p < 18446744073709551616 ∧ q < 18446744073709551616 ∧ p * 18446744073709551616 + q = x * y
theorem mul64' (x y : Nat) (hx : x < 18446744073709551616) (hy : y < 18446744073709551616) (w : World) :
    Calls Tryd.prog 80 #[.int .u64 x, .int .u64 y] w fun e w' => ∃ p q : Nat, MulF x y p q ∧ e = .returned (.tuple #[.int .u64 (p : Int), .int .u64 (q : Int)]) ∧ w = w' := by
  refine (mul64 x y hx hy w).mono fun e w' ⟨he, hw⟩ => ⟨x * y / 18446744073709551616, x * y % 18446744073709551616, ⟨?_, by omega, by omega⟩, he, hw⟩
  have : x * y ≤ 18446744073709551615 * 18446744073709551615 := Nat.mul_le_mul (by omega) (by omega)
  omega

/-- What a product by a word is. -/
def MulWordF (ah al x o h l : Nat) : Prop := o < 18446744073709551616 ∧ WW h l ∧ nv h l + o * B128 = nv ah al * x

theorem nv_mul (K a l x : Nat) : (a * K + l) * x = a * x * K + l * x := by rw [Nat.add_mul, Nat.mul_right_comm]
theorem mul_nv (K n a l : Nat) : n * (a * K + l) = n * a * K + n * l := by rw [Nat.mul_add, Nat.mul_assoc]

theorem mw_arith (m lo hi r : Nat) (_f1 : m < 18446744073709551616) (f2 : lo < 18446744073709551616) (_g1 : hi < 18446744073709551616) (_g2 : r < 18446744073709551616) (b : hi * 18446744073709551616 + r ≤ 18446744073709551615 * 18446744073709551615) :
    hi + (m + r) / 18446744073709551616 < 18446744073709551616 ∧ ((m + r) % 18446744073709551616 < 18446744073709551616 ∧ lo < 18446744073709551616) ∧ nv ((m + r) % 18446744073709551616) lo + (hi + (m + r) / 18446744073709551616) * B128 = (hi * 18446744073709551616 + r) * 18446744073709551616 + (m * 18446744073709551616 + lo) := by
  refine ⟨by omega, ⟨by omega, by omega⟩, ?_⟩
  clear b
  simp only [nv, B128]
  omega

theorem mulWordF_mk {ah al x m lo hi r : Nat} (ha : WW ah al) (hx : x < 18446744073709551616) (f : MulF al x m lo) (g : MulF ah x hi r) :
    MulWordF ah al x (hi + (m + r) / 18446744073709551616) ((m + r) % 18446744073709551616) lo ∧ hi + (m + r) / 18446744073709551616 < 18446744073709551616 := by
  obtain ⟨f1, f2, f3⟩ := f; obtain ⟨g1, g2, g3⟩ := g; obtain ⟨a1, a2⟩ := ha
  have e : nv ah al * x = ah * x * 18446744073709551616 + al * x := by unfold nv; exact nv_mul 18446744073709551616 ah al x
  have b : ah * x ≤ 18446744073709551615 * 18446744073709551615 := Nat.mul_le_mul (by omega) (by omega)
  rw [← f3, ← g3] at e
  rw [← g3] at b
  have q := mw_arith m lo hi r f1 f2 g1 g2 b
  unfold MulWordF WW
  rw [e]
  exact ⟨q, q.1⟩

set_option maxHeartbeats 400000 in
theorem mulWord_any (ah al x : Nat) (ha : WW ah al) (hx : x < 18446744073709551616) (w : World) :
    Calls Tryd.prog 57 #[U ah al, .int .u64 (x : Int)] w (RetWU (MulWordF ah al x) w) := by
  obtain ⟨a1, a2⟩ := id ha
  go_enter Tryd.func57, Tryd.ntmps57
  go_wp2_with fail
  refine (mul64' al x a2 hx _).mono ?_
  rintro e w1 ⟨m, lo, F, rfl, rfl⟩
  go_wp2_with fail
  refine (mul64' ah x a1 hx _).mono ?_
  rintro e w1 ⟨hi, r, G, rfl, rfl⟩
  obtain ⟨Q, bd⟩ := mulWordF_mk ha hx F G
  have bd' : (hi : Int) + ((m : Int) + r) / 18446744073709551616 < 18446744073709551616 := by omega
  have bd0 : 0 ≤ (hi : Int) + ((m : Int) + r) / 18446744073709551616 := by omega
  go_wp2_with (simp only [add64_0 (m : Int) (r : Int) (Int.natCast_nonneg _) (Int.natCast_nonneg _)])
  go_returns
  exact ⟨_, _, _, Q, ret_wu (by omega) (by omega) (by omega), by go_grown⟩

/-- What a product is. -/
def ProdF (ah al bh bl h l h' l' : Nat) : Prop := WW h l ∧ WW h' l' ∧ nv2 h l h' l' = nv ah al * nv bh bl

theorem mul_lt_B256 {a b : Nat} (ha : a < B128) (hb : b < B128) : a * b < B128 * B128 := Nat.mul_lt_mul'' ha hb

theorem prod_id (o hh hl c lh ll : Nat) : nv o hh * B128 + nv hl 0 + (nv 0 c * B128 + nv lh ll) = (nv hh hl + o * B128) * 18446744073709551616 + (nv lh ll + c * B128) := by
  simp only [nv, B128]
  omega
theorem over_none (X Y k T : Nat) (s : X * B128 + Y + k * (B128 * B128) = T) (b : T < B128 * B128) : X * B128 + Y = T := by
  have : k = 0 := by
    rcases Nat.eq_zero_or_pos k with h | h
    · exact h
    · have := Nat.le_mul_of_pos_left (B128 * B128) h
      generalize B128 * B128 = Q at *
      generalize k * Q = R at *
      omega
  subst this
  rw [Nat.zero_mul, Nat.add_zero] at s
  exact s
theorem prodF_mk {ah al bh bl o hh hl c lh ll h l h' l' k : Nat} (ha : WW ah al) (hb : WW bh bl) (f : MulWordF ah al bh o hh hl) (g : MulWordF ah al bl c lh ll)
    (s : Sum2F o hh hl 0 0 c lh ll h l h' l' k) : ProdF ah al bh bl h l h' l' := by
  obtain ⟨_, _, f3⟩ := f; obtain ⟨_, _, g3⟩ := g; obtain ⟨s1, s2, s3, s4⟩ := s
  have e : nv ah al * nv bh bl = nv ah al * bh * 18446744073709551616 + nv ah al * bl := mul_nv 18446744073709551616 (nv ah al) bh bl
  have b := mul_lt_B256 (nv_lt ha) (nv_lt hb)
  refine ⟨s1, s2, ?_⟩
  unfold nv2
  rw [e] at b ⊢
  rw [← f3, ← g3] at b ⊢
  rw [prod_id] at s4
  exact over_none _ _ k _ s4 b

theorem lt8 {a b c d : Nat} (h : c + 2 ≤ d) (k : b < c) (m : a + 1 + 1 + 1 < c) : b < d ∧ b < d + 1 ∧ b < d + 1 + 1 ∧ c < d ∧ c < d + 1 ∧ c < d + 1 + 1 ∧ a + 1 + 1 < d ∧ a + 1 + 1 + 1 < d ∧ a + 1 + 1 < d + 1 ∧ a + 1 + 1 + 1 < d + 1 ∧ a + 1 + 1 < d + 1 + 1 ∧ a + 1 + 1 + 1 < d + 1 + 1 := by omega
theorem up4 {a b : Nat} (h : a + 1 + 1 + 1 + 1 ≤ b) : (a + 1 < b ∧ a + 1 + 1 < b ∧ a + 1 + 1 + 1 < b) ∧ (a + 1 < b + 1 ∧ a + 1 + 1 < b + 1 ∧ a + 1 + 1 + 1 < b + 1) := by omega
theorem up3 {a b : Nat} (h : a + 1 + 1 + 1 ≤ b) : (a + 1 < b ∧ a + 1 + 1 < b ∧ True) ∧ (a + 1 < b + 1 ∧ a + 1 + 1 < b + 1 ∧ True) := ⟨⟨by omega, by omega, trivial⟩, ⟨by omega, by omega, trivial⟩⟩
theorem up2 {a b : Nat} (h : a + 1 + 1 ≤ b) : (a + 1 < b ∧ True ∧ True) ∧ (a + 1 < b + 1 ∧ True ∧ True) := ⟨⟨by omega, trivial, trivial⟩, ⟨by omega, trivial, trivial⟩⟩
/-- The two cells of a block of the call's own hold the number h, l. -/
def Holds2 (W : World) (g h l : Nat) : Prop := W.cell? ⟨g, 0, none⟩ = some (.int .u64 (h : Int)) ∧ W.cell? ⟨g, 1, none⟩ = some (.int .u64 (l : Int)) ∧ W.frozen? ⟨g, 0, none⟩ = false ∧ W.frozen? ⟨g, 1, none⟩ = false ∧ g < W.heap.size

theorem Holds2.below {W w1 : World} {g h l : Nat} (H : Holds2 W g h l) (hb : Below W.heap.size W w1) : Holds2 w1 g h l := by
  obtain ⟨a, b, c, d, e⟩ := H
  exact ⟨(hb.cell e).trans a, (hb.cell e).trans b, (hb.frozen e).trans c, (hb.frozen e).trans d, Nat.lt_of_lt_of_le e hb.size⟩

theorem Holds2.alloc {W : World} {g h l : Nat} (H : Holds2 W g h l) (o : Obj) : Holds2 (W.alloc o) g h l := H.below ((Below.refl _ _).alloc (Nat.le_refl _) o)
theorem Holds2.drew {W : World} {g h l : Nat} (H : Holds2 W g h l) : Holds2 W.drew g h l := H
theorem Holds2.far {W : World} {g h l : Nat} (H : Holds2 W g h l) {p : Addr} (hp : g ≠ p.block) (u : Value) : Holds2 (W.setCell p u) g h l := by
  obtain ⟨a, b, c, d, e⟩ := H
  have k : (W.setCell p u).heap[g]? = W.heap[g]? := Below.heap_setCell W p u g hp
  exact ⟨(World.cell?_of_block (a := ⟨g, 0, none⟩) k).trans a, (World.cell?_of_block (a := ⟨g, 1, none⟩) k).trans b, (World.frozen?_of_block (a := ⟨g, 0, none⟩) k).trans c, (World.frozen?_of_block (a := ⟨g, 1, none⟩) k).trans d, by simpa [World.setCell] using e⟩
theorem Holds2.new2 {W : World} {g h l t : Nat} (hg : g = W.heap.size) : Holds2 (W.alloc (.cells #[.int .u64 (h : Int), .int .u64 (l : Int)] t)) g h l := by
  subst hg
  simp [Holds2, go_sem]
theorem Holds2.put {W : World} {g a b h l : Nat} (H : Holds2 W g a b) : Holds2 ((W.setCell ⟨g, 0, none⟩ (.int .u64 (h : Int))).setCell ⟨g, 1, none⟩ (.int .u64 (l : Int))) g h l := by
  obtain ⟨a, b, c, d, e⟩ := H
  simp [Holds2, go_sem, *]
end Go.Proofs.YtkkddflclakphaaDoor

/-
  math/bits.Div64 for every high word below the divisor, and DivWord of package wide, each as a contract of its call.
-/
namespace Go.Proofs.YtkkddflclakphaaDoor
open Go.RowKit

def DivF (hi lo y q r : Nat) : Prop := q < 18446744073709551616 ∧ r < y ∧ q * y + r = hi * 18446744073709551616 + lo
def RetWW (F : Nat → Nat → Prop) (w : World) (e : Ending) (w' : World) : Prop := ∃ q r : Nat, F q r ∧ e = .returned (.tuple #[.int .u64 (q : Int), .int .u64 (r : Int)]) ∧ ∃ n, w' = w.drewN n

set_option maxRecDepth 100000 in
set_option maxHeartbeats 400000 in
theorem div64_zero (lo y : Nat) (h2 : lo < 18446744073709551616) (h3 : y < 18446744073709551616) (h4 : 0 < y) (w : World) :
    Calls Tryd.prog 83 #[.int .u64 0, .int .u64 (lo : Int), .int .u64 (y : Int)] w (RetWW (DivF 0 lo y) w) := by
  have t1 : ((y : Int) == 0) = false := by simp; omega
  have t3 : ¬ ((y : Int) ≤ 0) := by omega
  have t4 : (y : Int) ≠ 0 := by omega
  have d1 : lo / y ≤ lo := Nat.div_le_self _ _
  have d2 : lo % y < y := Nat.mod_lt _ h4
  have d3 := Nat.div_add_mod' lo y
  have F : DivF 0 lo y (lo / y) (lo % y) := ⟨by omega, d2, by rw [Nat.zero_mul, Nat.zero_add]; exact d3⟩
  clear d1 d2 d3
  go_enter Tryd.func83, Tryd.ntmps83
  go_wp2
  go_region
  go_wp2
  go_ret2
  exact ⟨_, _, F, congrArg Ending.returned (ret_two (by rw [show (lo : Int) / y = ((lo / y : Nat) : Int) by simp]; exact Mul64.wrapN _ F.1) (by simp)), 1, rfl⟩

theorem div64_all (hi lo y : Nat) (h1 : hi < y) (h2 : lo < 18446744073709551616) (h3 : y < 18446744073709551616) (w : World) :
    Calls Tryd.prog 83 #[.int .u64 (hi : Int), .int .u64 (lo : Int), .int .u64 (y : Int)] w (RetWW (DivF hi lo y) w) := by
  rcases Nat.eq_zero_or_pos hi with h | h
  · subst h
    exact div64_zero lo y h2 h3 h1 w
  · refine (div64_any hi lo y h1 h2 h3 h w).mono ?_
    rintro e w' ⟨q, r, F, he, rfl⟩
    exact ⟨q, r, F, he, 0, rfl⟩

theorem bdrewN {B : Nat} {a w : World} (h : Below B a w) (n : Nat) : Below B a (w.drewN n) := ⟨h.os, h.tape, h.output, h.size, h.block⟩
def RetUUWB (F : Nat → Nat → Nat → Nat → Nat → Prop) (b : Bool) (w : World) (e : Ending) (w' : World) : Prop :=
  ∃ h l h' l' r : Nat, F h l h' l' r ∧ e = .returned (.tuple #[U h l, U h' l', .int .u64 (r : Int), .bool b]) ∧ Below w.heap.size w w'
/-- What a quotient by a word is. -/
def DivWordF (hh hl lh ll x h l h' l' r : Nat) : Prop := WW h l ∧ WW h' l' ∧ r < x ∧ nv2 h l h' l' * x + r = nv2 hh hl lh ll

theorem four_words (K x a b c d q1 q2 q3 q4 r1 r2 r3 r4 : Nat) (e1 : q1 * x + r1 = 0 * K + a) (e2 : q2 * x + r2 = r1 * K + b) (e3 : q3 * x + r3 = r2 * K + c) (e4 : q4 * x + r4 = r3 * K + d) :
    ((q1 * K + q2) * (K * K) + (q3 * K + q4)) * x + r4 = (a * K + b) * (K * K) + (c * K + d) := by
  rw [Nat.zero_mul, Nat.zero_add] at e1
  have f1 : (q1 * K + q2) * x + r2 = a * K + b := by
    rw [Nat.add_mul, Nat.add_assoc, e2, ← Nat.add_assoc, Nat.mul_right_comm, ← Nat.add_mul, e1]
  have f2 : (q3 * K + q4) * x + r4 = r2 * (K * K) + (c * K + d) := by
    rw [Nat.add_mul, Nat.add_assoc, e4, ← Nat.add_assoc, Nat.mul_right_comm, ← Nat.add_mul, e3, Nat.add_mul, Nat.mul_assoc, Nat.add_assoc]
  rw [Nat.add_mul, Nat.add_assoc, f2, ← Nat.add_assoc, Nat.mul_right_comm, ← Nat.add_mul, f1]

theorem divWordF_mk {hh hl lh ll x q1 q2 q3 q4 r1 r2 r3 r4 : Nat} (f1 : DivF 0 hh x q1 r1) (f2 : DivF r1 hl x q2 r2) (f3 : DivF r2 lh x q3 r3) (f4 : DivF r3 ll x q4 r4) : DivWordF hh hl lh ll x q1 q2 q3 q4 r4 :=
  ⟨⟨f1.1, f2.1⟩, ⟨f3.1, f4.1⟩, f4.2.1, four_words 18446744073709551616 x hh hl lh ll q1 q2 q3 q4 r1 r2 r3 r4 f1.2.2 f2.2.2 f3.2.2 f4.2.2⟩

set_option maxHeartbeats 1000000 in
theorem divWord_any (hh hl lh ll x : Nat) (h1 : WW hh hl) (h2 : WW lh ll) (hx : 0 < x) (hx' : x < 18446744073709551616) (w : World) :
    Calls Tryd.prog 59 #[U hh hl, U lh ll, .int .u64 (x : Int)] w (RetUUWB (DivWordF hh hl lh ll x) true w) := by
  have t1 : ((x : Int) == 0) = false := by simp; omega
  obtain ⟨a1, a2⟩ := h1
  obtain ⟨b1, b2⟩ := h2
  go_enter Tryd.func59, Tryd.ntmps59
  go_wp2_with fail
  refine (div64_zero hh x a1 hx' hx _).mono ?_
  rintro e w1 ⟨q1, r1, F1, rfl, n1, rfl⟩
  go_wp2_with fail
  refine (div64_all r1 hl x F1.2.1 a2 hx' _).mono ?_
  rintro e w1 ⟨q2, r2, F2, rfl, n2, rfl⟩
  go_wp2_with fail
  refine (div64_all r2 lh x F2.2.1 b1 hx' _).mono ?_
  rintro e w1 ⟨q3, r3, F3, rfl, n3, rfl⟩
  go_wp2_with fail
  refine (div64_all r3 ll x F3.2.1 b2 hx' _).mono ?_
  rintro e w1 ⟨q4, r4, F4, rfl, n4, rfl⟩
  go_wp2
  go_region
  all_goals
    go_wp2
    refine bodyPost_ret (v := .tuple #[U q1 q2, U q3 q4, .int .u64 (r4 : Int), .bool true]) (by simp [results, Tryd.results59, go_sem, *]) rfl ⟨_, _, _, _, _, divWordF_mk F1 F2 F3 F4, rfl, ?_⟩
    go_grown
    repeat (refine bdrewN ?_ _; go_grown)
end Go.Proofs.YtkkddflclakphaaDoor

/-
  The product of package wide, as a contract of its call.
-/
namespace Go.Proofs.YtkkddflclakphaaDoor
open Go.RowKit

/-- What stands behind the sum of the two products. -/
def MulRel (w : World) (ah al bh bl : Nat) (p q : Value) (W : World) : Prop :=
  ∃ g g' h l h' l' : Nat, p = .pointer (some ⟨g, 0, none⟩) ∧ q = .pointer (some ⟨g', 0, none⟩) ∧ w.heap.size + 1 + 1 + 1 < g ∧ w.heap.size + 1 + 1 + 1 < g' ∧ Holds2 W g h l ∧ Holds2 W g' h' l' ∧ Holds2 W (w.heap.size + 1 + 1) 0 0 ∧ Holds2 W (w.heap.size + 1 + 1 + 1) 0 0 ∧ ProdF ah al bh bl h l h' l' ∧ Below w.heap.size w W

set_option maxHeartbeats 40000000 in
theorem mul_any (ah al bh bl : Nat) (ha : WW ah al) (hb : WW bh bl) (w : World) :
    Calls Tryd.prog 37 #[U ah al, U bh bl] w (RetUU (ProdF ah al bh bl) w) := by
  obtain ⟨b1, b2⟩ := id hb
  go_enter Tryd.func37, Tryd.ntmps37
  go_wp2_with fail
  refine (mulWord_any ah al bh ha b1 _).mono ?_
  rintro e w1 ⟨o, hh, hl, F, rfl, hb1⟩
  have Hb1 : Below w.heap.size w w1 := bstep (by go_grown) hb1
  obtain ⟨z0, z1, z2, z3⟩ : w.heap.size < w1.heap.size ∧ w.heap.size + 1 < w1.heap.size ∧ w.heap.size + 1 + 1 < w1.heap.size ∧ w.heap.size + 1 + 1 + 1 < w1.heap.size := by have := hb1.size; simp at this; omega
  obtain ⟨hc, hf⟩ := bcell hb1
  clear hb1
  go_wp2_with fail
  refine (mulWord_any ah al bl ha b2 _).mono ?_
  rintro e w2 ⟨c, lh, ll, G, rfl, hb2⟩
  have Hb2 : Below w.heap.size w w2 := bstep (by go_grown) hb2
  obtain ⟨x0, x1, x2, x3⟩ : w.heap.size < w2.heap.size ∧ w.heap.size + 1 < w2.heap.size ∧ w.heap.size + 1 + 1 < w2.heap.size ∧ w.heap.size + 1 + 1 + 1 < w2.heap.size := by have := hb2.size; simp at this; omega
  obtain ⟨y0, y1, y2, y3, y4⟩ : w1.heap.size < w2.heap.size ∧ w1.heap.size < w2.heap.size + 1 ∧ w1.heap.size < w2.heap.size + 1 + 1 ∧ w1.heap.size < w2.heap.size + 1 + 1 + 1 ∧ w1.heap.size < w2.heap.size + 1 + 1 + 1 + 1 := by have := hb2.size; simp at this; omega
  obtain ⟨hc2, hf2⟩ := bcell hb2
  clear hb2
  go_wp2
  obtain ⟨q1, q2, q3⟩ : (WW o hh ∧ WW hl 0 ∧ WW 0 c) ∧ WW lh ll ∧ True := by
    obtain ⟨f1, ⟨f2, f3⟩, _⟩ := F; obtain ⟨g1, ⟨g2, g3⟩, _⟩ := G
    exact ⟨⟨⟨f1, f2⟩, ⟨f3, by omega⟩, ⟨by omega, g1⟩⟩, ⟨g2, g3⟩, trivial⟩
  have Q5 := Lib.hid (by simp [Holds2, go_sem, *] : Holds2 w2 (w.heap.size + 1 + 1) 0 0)
  have Q6 := Lib.hid (by simp [Holds2, go_sem, *] : Holds2 w2 (w.heap.size + 1 + 1 + 1) 0 0)
  go_cut [10, 11] (fun p q W => MulRel w ah al bh bl p q W)
  case first =>
    go_region_held3 (fun w' => w'.cell? ⟨w1.heap.size, 0, none⟩ = some (.int .u64 (hh : Int)) ∧ w'.cell? ⟨w1.heap.size, 1, none⟩ = some (.int .u64 (hl : Int)) ∧ w'.cell? ⟨w2.heap.size, 0, none⟩ = some (.int .u64 (lh : Int)) ∧ w'.cell? ⟨w2.heap.size, 1, none⟩ = some (.int .u64 (ll : Int))) (simp [go_sem, *])
      (first
        | (go_at_call 30; refine (wof_any c _).mono ?_; rintro e w' ⟨rfl, o1, rfl⟩)
        | (go_at_call 66; refine (add2_any o hh hl 0 0 c lh ll q1.1 q1.2.1 q1.2.2 q2 _).mono ?_; rintro e w3 ⟨h, l, h', l', k, S, rfl, hb3⟩; have R5 := Lib.hid (Holds2.below (by repeat' (first | (with_reducible exact Q5.out) | (with_reducible refine Holds2.alloc ?_ _) | (with_reducible refine Holds2.drew ?_))) hb3 : Holds2 w3 (w.heap.size + 1 + 1) 0 0); have R6 := Lib.hid (Holds2.below (by repeat' (first | (with_reducible exact Q6.out) | (with_reducible refine Holds2.alloc ?_ _) | (with_reducible refine Holds2.drew ?_))) hb3 : Holds2 w3 (w.heap.size + 1 + 1 + 1) 0 0); obtain ⟨hc3, hf3⟩ := bcell hb3; have Hb3 : Below w.heap.size w w3 := bstep (by go_grown) hb3; obtain ⟨v0, v1, v2, v3, v4, v5, v6, v7, v8, v9, v10, v11⟩ := lt8 (d := w3.heap.size) (c := w2.heap.size) (by have := hb3.size; simp at this; omega) y0 x3; have sz := hb3.size; simp only [World.size_alloc, World.size_drew] at sz; first | obtain ⟨⟨u1, u2, u3⟩, ⟨u4, u5, u6⟩⟩ := up4 sz | obtain ⟨⟨u1, u2, u3⟩, ⟨u4, u5, u6⟩⟩ := up3 sz | obtain ⟨⟨u1, u2, u3⟩, ⟨u4, u5, u6⟩⟩ := up2 sz))
    all_goals
      go_wp2_with fail
      go_meet
      case rel =>
        refine ⟨_, _, h, l, h', l', rfl, rfl, ?_, ?_, ?_, ?_, ?_, ?_, prodF_mk ha hb F G S, ?_⟩
        · omega
        · omega
        · clear hc hf hc2 hf2 hc3 hf3 R5 R6 Q5 Q6 F G S
          repeat' (first | ((with_reducible refine Holds2.new2 ?_); simp; done) | (with_reducible refine Holds2.put (a := 0) (b := 0) ?_) | (with_reducible refine Holds2.alloc ?_ _) | (with_reducible refine Holds2.far (Holds2.far ?_ ?_ _) ?_ _) | ((with_reducible refine Holds2.below ?_ hb3); simp [Holds2, go_sem]; done) | (show _ ≠ _; (try dsimp only); omega))
        · clear hc hf hc2 hf2 hc3 hf3 R5 R6 Q5 Q6 F G S
          repeat' (first | ((with_reducible refine Holds2.new2 ?_); simp; done) | (with_reducible refine Holds2.put (a := 0) (b := 0) ?_) | (with_reducible refine Holds2.alloc ?_ _) | (with_reducible refine Holds2.far (Holds2.far ?_ ?_ _) ?_ _) | ((with_reducible refine Holds2.below ?_ hb3); simp [Holds2, go_sem]; done) | (show _ ≠ _; (try dsimp only); omega))
        · repeat' (first | (with_reducible exact (R5.out)) | (with_reducible refine Holds2.alloc ?_ _) | (with_reducible refine Holds2.drew ?_) | (with_reducible refine Holds2.far ?_ ?_ _) | (show _ ≠ _; (try dsimp only); omega))
        · repeat' (first | (with_reducible exact (R6.out)) | (with_reducible refine Holds2.alloc ?_ _) | (with_reducible refine Holds2.drew ?_) | (with_reducible refine Holds2.far ?_ ?_ _) | (show _ ≠ _; (try dsimp only); omega))
        · clear hc hf hc2 hf2 hc3 hf3
          go_grown
  case rest =>
    clear hc hf hc2 hf2
    obtain ⟨g, g', h, l, h', l', rfl, rfl, k1, k2, A1, A2, A3, A4, PF, HB⟩ := hcut
    obtain ⟨a1, a2, a3, a4, a5⟩ := A1
    obtain ⟨b1, b2, b3, b4, b5⟩ := A2
    obtain ⟨c1, c2, c3, c4, c5⟩ := A3
    obtain ⟨d1, d2, d3, d4, d5⟩ := A4
    obtain ⟨n1, n2, n3, n4⟩ : g ≠ w.heap.size + 1 + 1 ∧ g ≠ w.heap.size + 1 + 1 + 1 ∧ g' ≠ w.heap.size + 1 + 1 ∧ g' ≠ w.heap.size + 1 + 1 + 1 := by omega
    go_wp2
    go_region
    all_goals
      go_wp2
      refine bodyPost_ret (v := .tuple #[U h l, U h' l']) (by simp [results, Tryd.results37, go_sem, *]) rfl ⟨_, _, _, _, PF, rfl, ?_⟩
      clear a1 a2 a3 a4 a5 b1 b2 b3 b4 b5 c1 c2 c3 c4 c5 d1 d2 d3 d4 d5
      go_grown
end Go.Proofs.YtkkddflclakphaaDoor

/-
  Shifts, squares held against a number, and the root, of package wide, each as a contract of its call.
-/
namespace Go.Proofs.YtkkddflclakphaaDoor
open Go.RowKit

theorem ret_u {h l : Nat} {h' l' : Int} (a : h' = h) (b : l' = l) : Ending.returned (.agg #[.int .u64 h', .int .u64 l']) = .returned (U h l) := by rw [a, b]

def RightF (h l s h' l' : Nat) : Prop := WW h' l' ∧ nv h' l' = nv h l / 2 ^ s
def LeftF (h l s h' l' : Nat) : Prop := WW h' l' ∧ nv h' l' + nv h l * 2 ^ s / (B128) * B128 = nv h l * 2 ^ s

theorem wrapMul (x k : Nat) : IntKind.u64.wrap ((x : Int) * 2 ^ k) = ((x * 2 ^ k % 18446744073709551616 : Nat) : Int) := by
  rw [IntKind.wrap_u64]; simp
theorem divPow (x k : Nat) : (x : Int) / 2 ^ k = ((x / 2 ^ k : Nat) : Int) := by simp

theorem right_words (h l s : Nat) (hs : s ≤ 63) (ha : WW h l) :
    bits BinOp.or IntKind.u64 ((l : Int) / 2 ^ s) (IntKind.u64.wrap ((h : Int) * 2 ^ (64 - s))) = ((h % 2 ^ s * 2 ^ (64 - s) + l / 2 ^ s : Nat) : Int) := by
  obtain ⟨h1, h2⟩ := ha
  have e := Sh.pow64 hs
  obtain ⟨_, r2, r3⟩ := Sh.right_lt e (Nat.two_pow_pos s) h l h1 h2
  rw [wrapMul, divPow, Sh.mul_mod_of' e, bits_or_u64_nat _ _ (Nat.lt_of_le_of_lt (Nat.le_add_left _ _) r3) (Nat.lt_of_le_of_lt (Nat.le_add_right _ _) r3), Sh.or_sum' r2]
theorem rightF_mk (h l s : Nat) (hs : s ≤ 63) (ha : WW h l) : RightF h l s (h / 2 ^ s) (h % 2 ^ s * 2 ^ (64 - s) + l / 2 ^ s) := by
  obtain ⟨h1, h2⟩ := ha
  have e := Sh.pow64 hs
  obtain ⟨r1, r2, r3⟩ := Sh.right_lt e (Nat.two_pow_pos s) h l h1 h2
  exact ⟨⟨r1, r3⟩, Sh.right_val e (Nat.two_pow_pos s) h l⟩

set_option maxHeartbeats 400000 in
theorem right_any (h l s : Nat) (hs : s ≤ 63) (ha : WW h l) (w : World) :
    Calls Tryd.prog 63 #[U h l, .int .i64 (s : Int)] w (RetU (RightF h l s) w) := by
  have F := rightF_mk h l s hs ha
  have E := Lib.hid (right_words h l s hs ha)
  go_enter Tryd.func63, Tryd.ntmps63
  go_wp2
  go_region
  go_wp2
  go_returns
  exact ⟨_, _, F, ret_u (divPow h s) E.out, by go_grown⟩

theorem left_words (h l s : Nat) (hs : s ≤ 63) (ha : WW h l) :
    bits BinOp.or IntKind.u64 (IntKind.u64.wrap ((h : Int) * 2 ^ s)) ((l : Int) / 2 ^ (64 - s)) = ((h % 2 ^ (64 - s) * 2 ^ s + l / 2 ^ (64 - s) : Nat) : Int) := by
  obtain ⟨h1, h2⟩ := ha
  have e := Sh.pow64 hs
  obtain ⟨r2, r3⟩ := Sh.left_lt e (Nat.two_pow_pos s) (Nat.two_pow_pos (64 - s)) h l h2
  have r4 : l / 2 ^ (64 - s) < 2 ^ s := Nat.div_lt_of_lt_mul (by rw [e]; exact h2)
  rw [wrapMul, divPow, Sh.mul_mod_of e, bits_or_u64_nat _ _ (Nat.lt_of_le_of_lt (Nat.le_add_right _ _) r2) (Nat.lt_of_le_of_lt (Nat.le_add_left _ _) r2), Sh.or_sum'' r4]
theorem leftF_mk (h l s : Nat) (hs : s ≤ 63) (ha : WW h l) : LeftF h l s (h % 2 ^ (64 - s) * 2 ^ s + l / 2 ^ (64 - s)) (l % 2 ^ (64 - s) * 2 ^ s) := by
  obtain ⟨h1, h2⟩ := ha
  have e := Sh.pow64 hs
  obtain ⟨r2, r3⟩ := Sh.left_lt e (Nat.two_pow_pos s) (Nat.two_pow_pos (64 - s)) h l h2
  have v := Sh.left_val e h l
  have hw : WW (h % 2 ^ (64 - s) * 2 ^ s + l / 2 ^ (64 - s)) (l % 2 ^ (64 - s) * 2 ^ s) := ⟨r2, r3⟩
  refine ⟨hw, ?_⟩
  have lt := nv_lt hw
  have v' : nv (h % 2 ^ (64 - s) * 2 ^ s + l / 2 ^ (64 - s)) (l % 2 ^ (64 - s) * 2 ^ s) + h / 2 ^ (64 - s) * B128 = nv h l * 2 ^ s := v
  rw [← v']
  generalize nv (h % 2 ^ (64 - s) * 2 ^ s + l / 2 ^ (64 - s)) (l % 2 ^ (64 - s) * 2 ^ s) = x at *
  rw [Nat.add_mul_div_right _ _ (by decide), Nat.div_eq_of_lt lt, Nat.zero_add]
theorem left_low (l s : Nat) (hs : s ≤ 63) : IntKind.u64.wrap ((l : Int) * 2 ^ s) = ((l % 2 ^ (64 - s) * 2 ^ s : Nat) : Int) := by
  rw [wrapMul, Sh.mul_mod_of (Sh.pow64 hs)]

set_option maxHeartbeats 400000 in
theorem left_any (h l s : Nat) (hs : s ≤ 63) (ha : WW h l) (w : World) :
    Calls Tryd.prog 61 #[U h l, .int .i64 (s : Int)] w (RetU (LeftF h l s) w) := by
  have F := leftF_mk h l s hs ha
  have E := Lib.hid (left_words h l s hs ha)
  go_enter Tryd.func61, Tryd.ntmps61
  go_wp2
  go_region
  go_wp2
  go_returns
  exact ⟨_, _, F, ret_u E.out (left_low l s hs), by go_grown⟩

end Go.Proofs.YtkkddflclakphaaDoor

/-
  Plain arithmetic of a root that is found bit by bit: no program in sight.
-/
namespace Go.Proofs.YtkkddflclakphaaDoor

/-- Where the search stands with k bits to come: b is the bit, r what has been found. -/
def RootF (N k b r : Nat) : Prop := (k = 0 → b = 0) ∧ (0 < k → b = 2 ^ (k - 1)) ∧ k ≤ 128 ∧ r % 2 ^ k = 0 ∧ r < 2 ^ 128 ∧ r * r ≤ N ∧ N < (r + 2 ^ k) * (r + 2 ^ k)

theorem rootF_start {N : Nat} (h : N < 2 ^ 128 * 2 ^ 128) : RootF N 128 (2 ^ 127) 0 :=
  ⟨fun h => (by cases h), fun _ => rfl, Nat.le_refl _, Nat.zero_mod _, Nat.two_pow_pos _, Nat.zero_le _, (by rw [Nat.zero_add]; exact h)⟩

theorem rootF_room {N k b r : Nat} (f : RootF N (k + 1) b r) : b = 2 ^ k ∧ r + b < 2 ^ 128 ∧ r + 2 ^ (k + 1) ≤ 2 ^ 128 := by
  obtain ⟨_, f2, f3, f4, f5, _, _⟩ := f
  have hb : b = 2 ^ k := f2 (by omega)
  have e : (2 : Nat) ^ 128 = 2 ^ (127 - k) * 2 ^ (k + 1) := by rw [← Nat.pow_add, show 127 - k + (k + 1) = 128 by omega]
  have er : r = r / 2 ^ (k + 1) * 2 ^ (k + 1) := by have := Nat.div_add_mod' r (2 ^ (k + 1)); omega
  have hp : (0 : Nat) < 2 ^ (k + 1) := Nat.two_pow_pos _
  have hq : r / 2 ^ (k + 1) < 2 ^ (127 - k) := Nat.div_lt_of_lt_mul (by rw [Nat.mul_comm, ← e]; exact f5)
  have h1 := Nat.mul_le_mul_right (2 ^ (k + 1)) (Nat.succ_le_of_lt hq)
  rw [Nat.succ_mul, ← er, ← e] at h1
  have h2 : (2 : Nat) ^ (k + 1) = 2 ^ k + 2 ^ k := by rw [Nat.pow_succ]; omega
  have h3 : (0 : Nat) < 2 ^ k := Nat.two_pow_pos _
  exact ⟨hb, by omega, h1⟩

theorem half_bit (k : Nat) : (k = 0 → 2 ^ k / 2 = 0) ∧ (0 < k → 2 ^ k / 2 = 2 ^ (k - 1)) := by
  refine ⟨fun h => by subst h; rfl, fun h => ?_⟩
  obtain ⟨j, rfl⟩ : ∃ j, k = j + 1 := ⟨k - 1, by omega⟩
  rw [Nat.pow_succ, Nat.mul_div_cancel _ (by decide), Nat.add_sub_cancel]

theorem rootF_take {N k b r : Nat} (f : RootF N (k + 1) b r) (h : (r + b) * (r + b) ≤ N) : RootF N k (b / 2) (r + b) := by
  obtain ⟨hb, h1, h2⟩ := rootF_room f
  obtain ⟨_, _, f3, f4, f5, f6, f7⟩ := f
  subst hb
  obtain ⟨a1, a2⟩ := half_bit k
  refine ⟨a1, a2, by omega, ?_, h1, h, ?_⟩
  · have : r % 2 ^ k = 0 := Nat.mod_eq_zero_of_dvd (Nat.dvd_trans (Nat.pow_dvd_pow 2 (Nat.le_succ k)) (Nat.dvd_of_mod_eq_zero f4))
    rw [Nat.add_mod_right, this]
  · rw [Nat.add_assoc, ← Nat.two_mul, Nat.mul_comm 2, ← Nat.pow_succ]
    exact f7
theorem rootF_pass {N k b r : Nat} (f : RootF N (k + 1) b r) (h : N < (r + b) * (r + b)) : RootF N k (b / 2) r := by
  obtain ⟨hb, h1, h2⟩ := rootF_room f
  obtain ⟨_, _, f3, f4, f5, f6, f7⟩ := f
  subst hb
  obtain ⟨a1, a2⟩ := half_bit k
  exact ⟨a1, a2, by omega, Nat.mod_eq_zero_of_dvd (Nat.dvd_trans (Nat.pow_dvd_pow 2 (Nat.le_succ k)) (Nat.dvd_of_mod_eq_zero f4)), f5, f6, h⟩
theorem rootF_end {N b r : Nat} (f : RootF N 0 b r) : b = 0 ∧ r * r ≤ N ∧ N < (r + 1) * (r + 1) := ⟨f.1 rfl, f.2.2.2.2.2.1, f.2.2.2.2.2.2⟩
theorem rootF_bit {N k b r : Nat} (f : RootF N (k + 1) b r) : b ≠ 0 := by
  have := (rootF_room f).1
  have := Nat.two_pow_pos k
  omega
end Go.Proofs.YtkkddflclakphaaDoor

/-
  The root of package wide, as a contract of its call.
-/
namespace Go.Proofs.YtkkddflclakphaaDoor
open Go.RowKit

def RetUB (F : Nat → Nat → Bool → Prop) (w : World) (e : Ending) (w' : World) : Prop :=
  ∃ (h l : Nat) (b : Bool), F h l b ∧ e = .returned (.tuple #[U h l, .bool b]) ∧ Below w.heap.size w w'

theorem zero_t {h l : Nat} (e : nv h l = 0) (w : World) : Calls Tryd.prog 33 #[U h l] w (RetB true w) := by
  have := zero_any h l w
  rw [show decide (nv h l = 0) = true from by simp [e]] at this
  exact this
theorem zero_f {h l : Nat} (e : nv h l ≠ 0) (w : World) : Calls Tryd.prog 33 #[U h l] w (RetB false w) := by
  have := zero_any h l w
  rw [show decide (nv h l = 0) = false from by simp [e]] at this
  exact this

theorem no_carry (x c T B : Nat) (s : x + c * B = T) (h : T < B) : x = T := by
  rcases Nat.eq_zero_or_pos c with hc | hc
  · rw [hc, Nat.zero_mul, Nat.add_zero] at s; exact s
  · have := Nat.le_mul_of_pos_left B hc
    generalize c * B = y at *
    omega
theorem sum_fits {rh rl bh bl nh nl c : Nat} (S : SumF rh rl bh bl 0 nh nl c) (h : nv rh rl + nv bh bl < B128) : WW nh nl ∧ nv nh nl = nv rh rl + nv bh bl :=
  ⟨S.1, no_carry (nv nh nl) c (nv rh rl + nv bh bl) B128 (by have e := S.2.2; rw [Nat.add_zero] at e; exact e) h⟩

/-- Where the loop stands. -/
def RootRel (w : World) (hh hl lh ll k : Nat) (p : Value) (W : World) : Prop :=
  ∃ g bh bl rh rl : Nat, p = .pointer (some ⟨g, 0, none⟩) ∧ w.heap.size + 1 + 1 + 1 < g ∧ Holds2 W g bh bl ∧ Holds2 W (w.heap.size + 1 + 1 + 1) rh rl ∧ Holds2 W w.heap.size hh hl ∧ Holds2 W (w.heap.size + 1) lh ll ∧ Holds2 W (w.heap.size + 1 + 1) 0 0 ∧
    RootF (nv2 hh hl lh ll) k (nv bh bl) (nv rh rl) ∧ WW bh bl ∧ WW rh rl ∧ Below w.heap.size w W

end Go.Proofs.YtkkddflclakphaaDoor

/-
  A word of a quotient, guessed and mended (guess, divStep of package wide), each as a contract of its call.
-/
namespace Go.Proofs.YtkkddflclakphaaDoor
open Go.RowKit

/-- What is guessed. -/
def GuessF (ah al dh q : Nat) : Prop := q < 18446744073709551616 ∧ (dh ≤ ah ∧ q = 18446744073709551615 ∨ ah < dh ∧ q = nv ah al / dh)

set_option maxHeartbeats 400000 in
theorem guess_any (ah al dh : Nat) (ha : WW ah al) (hd : dh < 18446744073709551616) (w : World) :
    Calls Tryd.prog 85 #[U ah al, .int .u64 (dh : Int)] w fun e w' => ∃ q : Nat, GuessF ah al dh q ∧ e = .returned (.int .u64 (q : Int)) ∧ Below w.heap.size w w' := by
  obtain ⟨a1, a2⟩ := ha
  rcases Nat.lt_or_ge ah dh with h | h
  · have t : decide (dh ≤ ah) = false := by simp; omega
    go_enter Tryd.func85, Tryd.ntmps85
    go_wp2_with fail
    refine (div64_all ah al dh h a2 hd _).mono ?_
    rintro e w1 ⟨q, r, F, rfl, n, rfl⟩
    go_wp2
    go_ret
    refine ⟨q, ⟨F.1, .inr ⟨h, ?_⟩⟩, rfl, by go_grown; exact bdrewN (by go_grown) n⟩
    obtain ⟨_, f2, f3⟩ := F
    unfold nv
    rw [← f3, Nat.add_comm, Nat.add_mul_div_right _ _ (by omega), Nat.div_eq_of_lt f2, Nat.zero_add]
  · have t : decide (dh ≤ ah) = true := by simp; omega
    go_enter Tryd.func85, Tryd.ntmps85
    go_wp2
    go_ret
    exact ⟨18446744073709551615, ⟨by decide, .inl ⟨h, rfl⟩⟩, rfl, by go_grown⟩

/-- What a word of a quotient is. -/
def StepQ (ah al v dh dl q rh rl : Nat) : Prop := q < 18446744073709551616 ∧ WW rh rl ∧ nv rh rl < nv dh dl ∧ q * nv dh dl + nv rh rl = nv ah al * 18446744073709551616 + v

/-- Where the mending of the guess stands: o and the number p are the product of d and q. -/
def MendF (ah al v dh dl q o ph pl : Nat) : Prop := q < 18446744073709551616 ∧ o < 18446744073709551616 ∧ WW ph pl ∧ nv ph pl + o * B128 = q * nv dh dl ∧ (nv ah al * 18446744073709551616 + v) / nv dh dl ≤ q ∧ 0 < nv dh dl ∧ nv dh dl < B128

theorem split_dividend (ah al v : Nat) : nv ah al * 18446744073709551616 + v = ah * B128 + nv al v := by unfold nv B128; omega

theorem mend_start {ah al v dh dl q o ph pl : Nat} (hv : v < 18446744073709551616) (hd : WW dh dl) (h : nv ah al < nv dh dl) (h0 : 0 < dh) (g : GuessF ah al dh q) (f : MulWordF dh dl q o ph pl) : MendF ah al v dh dl q o ph pl := by
  obtain ⟨f1, f2, f3⟩ := f
  obtain ⟨g1, g2⟩ := g
  refine ⟨g1, f1, f2, by rw [f3, Nat.mul_comm], ?_, by omega, nv_lt hd⟩
  rcases g2 with ⟨_, rfl⟩ | ⟨_, rfl⟩
  · have := Dv.quo_lt (K := 18446744073709551616) h hv
    omega
  · exact Dv.guess_ge (dl := dl) rfl hv h0
/-- The product is too great. -/
theorem mend_more {ah al v dh dl q o ph pl h l c : Nat} (m : MendF ah al v dh dl q o ph pl) (k : nv ah al * 18446744073709551616 + v < q * nv dh dl) (s : SubF ph pl dh dl 0 h l c) :
    0 < q ∧ c ≤ o ∧ MendF ah al v dh dl (q - 1) (o - c) h l := by
  obtain ⟨m1, m2, m3, m4, m5, m6, m7⟩ := m
  obtain ⟨s1, s2, s3⟩ := s
  obtain ⟨l1, l2, l3⟩ := Dv.less m6 m5 k
  have hco : c ≤ o := by
    rcases Nat.eq_zero_or_pos o with z | z
    · subst z
      rw [Nat.zero_mul, Nat.add_zero] at m4
      rw [← l3] at m4
      have := nv_lt s1
      have hc : c = 0 ∨ c = 1 := by omega
      rcases hc with rfl | rfl
      · omega
      · rw [Nat.one_mul] at s3
        generalize nv h l = x at *
        generalize nv ph pl = y at *
        generalize (q - 1) * nv dh dl = z at *
        generalize nv dh dl = d at *
        generalize B128 = b at *
        omega
    · omega
  refine ⟨l2, hco, by omega, by omega, s1, ?_, l1, m6, m7⟩
  obtain ⟨j, rfl⟩ : ∃ j, o = j + c := ⟨o - c, by omega⟩
  rw [Nat.add_sub_cancel]
  rw [Nat.add_mul, ← l3] at m4
  generalize nv h l = x at *
  generalize nv ph pl = y at *
  generalize (q - 1) * nv dh dl = z at *
  generalize nv dh dl = d at *
  generalize j * B128 = jb at *
  generalize c * B128 = cb at *
  omega
/-- It is not: the guess is right. -/
theorem mend_done {ah al v dh dl q o ph pl h l c : Nat} (hv : WW al v) (m : MendF ah al v dh dl q o ph pl) (k : q * nv dh dl ≤ nv ah al * 18446744073709551616 + v) (s : SubF al v ph pl 0 h l c) :
    StepQ ah al v dh dl q h l := by
  obtain ⟨m1, m2, m3, m4, m5, m6, m7⟩ := m
  obtain ⟨s1, s2, s3⟩ := s
  obtain ⟨d1, d2, d3⟩ := Dv.done m6 m5 k
  have a1 := nv_lt s1
  have a2 := nv_lt hv
  have a3 := nv_lt m3
  have e : nv h l = nv ah al * 18446744073709551616 + v - q * nv dh dl := by
    rw [split_dividend] at k d2 d3 ⊢
    rw [← m4] at k d2 d3 ⊢
    generalize nv h l = x at *
    generalize nv al v = t at *
    generalize nv ph pl = y at *
    generalize nv dh dl = d at *
    clear d1 m5 m4 m2 m1
    unfold B128 at *
    omega
  exact ⟨m1, s1, by rw [e]; exact d2, by rw [e]; exact d3⟩
/-- The test of the loop. -/
theorem mend_test {ah al v dh dl q o ph pl : Nat} (hv : WW al v) (m : MendF ah al v dh dl q o ph pl) :
    (nv ah al * 18446744073709551616 + v < q * nv dh dl ∧ (ah < o ∨ ah = o ∧ nv al v < nv ph pl)) ∨ (q * nv dh dl ≤ nv ah al * 18446744073709551616 + v ∧ (o < ah ∨ ah = o ∧ nv ph pl ≤ nv al v)) := by
  obtain ⟨m1, m2, m3, m4, m5, m6, m7⟩ := m
  have a2 := nv_lt hv
  have a3 := nv_lt m3
  rw [split_dividend, ← m4]
  generalize nv al v = t at *
  generalize nv ph pl = y at *
  clear m4 m5 m6 m7 m1 m2
  unfold B128 at *
  omega
end Go.Proofs.YtkkddflclakphaaDoor

/-
  A word of a quotient (divStep of package wide), as a contract of its call.
-/
namespace Go.Proofs.YtkkddflclakphaaDoor
open Go.RowKit

/-- Where the loop stands. -/
def MendRel (w : World) (g ah al v dh dl k : Nat) (q o : Value) (W : World) : Prop :=
  ∃ Q O ph pl : Nat, q = .int .u64 (Q : Int) ∧ o = .int .u64 (O : Int) ∧ k = Q ∧ MendF ah al v dh dl Q O ph pl ∧ Holds2 W g ph pl ∧ Holds2 W (g + 1) al v ∧ Holds2 W w.heap.size ah al ∧ Holds2 W (w.heap.size + 1) dh dl ∧ Holds2 W (w.heap.size + 1 + 1) 0 0 ∧ Below w.heap.size w W

theorem wrap_less {a b : Nat} (h : b ≤ a) (k : a < 18446744073709551616) : IntKind.u64.wrap ((a : Int) - (b : Int)) = ((a - b : Nat) : Int) := by
  rw [IntKind.wrap_u64]; omega

set_option maxHeartbeats 2000000 in
theorem divStep_any (ah al v dh dl : Nat) (ha : WW ah al) (hv : v < 18446744073709551616) (hd : WW dh dl) (h : nv ah al < nv dh dl) (h0 : 0 < dh) (w : World) :
    Calls Tryd.prog 62 #[U ah al, .int .u64 (v : Int), U dh dl] w fun e w' => ∃ q rh rl : Nat, StepQ ah al v dh dl q rh rl ∧ e = .returned (.tuple #[.int .u64 (q : Int), U rh rl]) ∧ Below w.heap.size w w' := by
  have HS := Lib.hid (fun q o ph pl => @mend_start ah al v dh dl q o ph pl hv hd h h0)
  have hlo : WW al v := ⟨ha.2, hv⟩
  have HA := Lib.hid ha
  have HD := Lib.hid hd
  have HL := Lib.hid hlo
  have HG := Lib.hid (fun W => guess_any ah al dh ha hd.1 W)
  clear h h0 hv ha hd hlo
  go_enter Tryd.func62, Tryd.ntmps62
  go_wp2_with fail
  refine (HG.out _).mono ?_
  rintro e w1 ⟨q0, G, rfl, hb1⟩
  have H0 := Lib.hid ((by simp [Holds2, go_sem] : Holds2 _ w.heap.size ah al).below hb1)
  have H1 := Lib.hid ((by simp [Holds2, go_sem] : Holds2 _ (w.heap.size + 1) dh dl).below hb1)
  have H2 := Lib.hid ((by simp [Holds2, go_sem] : Holds2 _ (w.heap.size + 1 + 1) 0 0).below hb1)
  have B1 : Below w.heap.size w w1 := bstep (by go_grown) hb1
  have G1 := Lib.hid G
  clear hb1 G HG
  obtain ⟨b1, b2, b3, b4, b5⟩ := H1.out
  go_wp2_with fail
  refine (mulWord_any dh dl q0 HD.out G1.out.1 _).mono ?_
  rintro e w2 ⟨o0, ph0, pl0, M, rfl, hb2⟩
  have M0 := Lib.hid (HS.out q0 o0 ph0 pl0 G1.out M)
  have K0 := Lib.hid (H0.out.below hb2)
  have K1 := Lib.hid (H1.out.below hb2)
  have K2 := Lib.hid (H2.out.below hb2)
  have B2 : Below w.heap.size w w2 := bstep B1 hb2
  have S2 := B2.size
  clear hb2 M HS G1 H0 H1 H2 b1 b2 b3 b4 b5 B1
  obtain ⟨a1, a2, a3, a4, a5⟩ := K0.out
  have z1 : w.heap.size < w2.heap.size + 1 := by omega
  go_wp2
  go_loopg [8, 9] q0 (fun k q o W => MendRel w w2.heap.size ah al v dh dl k q o W)
  case atStart =>
    refine ⟨q0, o0, ph0, pl0, rfl, rfl, rfl, M0.out, ?_, ?_, ?_, ?_, ?_, ?_⟩
    · simp [Holds2, go_sem]
    · simp [Holds2, go_sem]
    · repeat' (first | (with_reducible exact K0.out) | (with_reducible refine Holds2.alloc ?_ _))
    · repeat' (first | (with_reducible exact K1.out) | (with_reducible refine Holds2.alloc ?_ _))
    · repeat' (first | (with_reducible exact K2.out) | (with_reducible refine Holds2.alloc ?_ _))
    · clear a1 a2 a3 a4 a5
      go_grown
  case round =>
    clear a1 a2 a3 a4 a5 K0 M0 z1
    obtain ⟨Q, O, ph, pl, rfl, rfl, rfl, M, A1, A2, A3, A4, A5, HB⟩ := hrel
    have HM := Lib.hid M
    obtain ⟨Ob, hpw⟩ : O < 18446744073709551616 ∧ WW ph pl := ⟨M.2.1, M.2.2.1⟩
    have T := mend_test HL.out M
    have HP := Lib.hid hpw
    have HO := Lib.hid Ob
    have g0 : w.heap.size + 1 + 1 < w2.heap.size := K2.out.2.2.2.2
    clear M Ob hpw K1 K2 B2
    obtain ⟨a1, a2, a3, a4, a5⟩ := id A1
    obtain ⟨b1, b2, b3, b4, b5⟩ := id A2
    obtain ⟨c1, c2, c3, c4, c5⟩ := id A3
    obtain ⟨d1, d2, d3, d4, d5⟩ := id A4
    obtain ⟨e1, e2, e3, e4, e5⟩ := id A5
    rcases T with ⟨k, T⟩ | ⟨k, T⟩
    · have Q0 : 1 ≤ gk := by
        rcases Nat.eq_zero_or_pos gk with z | z
        · rw [z, Nat.zero_mul] at k; omega
        · exact z
      have MM := Lib.hid (fun h l c => @mend_more ah al v dh dl gk O ph pl h l c HM.out k)
      have m1 : IntKind.u64.wrap ((gk : Int) - 1) = ((gk - 1 : Nat) : Int) := wrap_less Q0 HM.out.1
      clear k HM
      rcases T with T | ⟨T1, T2⟩
      · have t1 : decide (ah < O) = true := by simp; omega
        clear T
        go_wp2_with fail
        refine (sub_any ph pl dh dl HP.out HD.out _).mono ?_
        rintro e v1 ⟨h, l, c, S, rfl, hb3⟩
        obtain ⟨_, n2, n3⟩ := MM.out h l c S
        have N3 := Lib.hid n3
        have m2 : IntKind.u64.wrap ((O : Int) - (c : Int)) = ((O - c : Nat) : Int) := wrap_less n2 HO.out
        have B1 := Lib.hid (A1.below hb3)
        have B2 := Lib.hid (A2.below hb3)
        have B3 := Lib.hid (A3.below hb3)
        have B4 := Lib.hid (A4.below hb3)
        have B5 := Lib.hid (A5.below hb3)
        have HB1 : Below w.heap.size w v1 := bstep HB hb3
        clear a1 a2 a3 a4 a5 b1 b2 b3 b4 b5 c1 c2 c3 c4 c5 d1 d2 d3 d4 d5 e1 e2 e3 e4 e5 A1 A2 A3 A4 A5 hb3 n2 n3 S MM HB
        obtain ⟨a1, a2, a3, a4, a5⟩ := id B1.out
        go_wp2
        go_roundg (gk - 1)
        case measure => omega
        case rel =>
          refine ⟨gk - 1, O - c, h, l, rfl, rfl, rfl, N3.out, ?_, ?_, ?_, ?_, ?_, ?_⟩
          · exact Holds2.put B1.out
          · exact Holds2.far (Holds2.far B2.out (by show _ ≠ _; dsimp only; omega) _) (by show _ ≠ _; dsimp only; omega) _
          · exact Holds2.far (Holds2.far B3.out (by show _ ≠ _; dsimp only; omega) _) (by show _ ≠ _; dsimp only; omega) _
          · exact Holds2.far (Holds2.far B4.out (by show _ ≠ _; dsimp only; omega) _) (by show _ ≠ _; dsimp only; omega) _
          · exact Holds2.far (Holds2.far B5.out (by show _ ≠ _; dsimp only; omega) _) (by show _ ≠ _; dsimp only; omega) _
          · exact (HB1.setCell (by show w.heap.size ≤ w2.heap.size; omega) _).setCell (by show w.heap.size ≤ w2.heap.size; omega) _
      · subst T1
        have C := wcmp_any ph pl al v HP.out HL.out
        rw [cmpN_gt T2] at C
        have HC := Lib.hid C
        clear T2 C
        go_wp2_with fail
        refine (HC.out _).mono ?_
        rintro e v0 ⟨rfl, hb0⟩
        have A1 := A1.below hb0
        have A2 := A2.below hb0
        have A3 := A3.below hb0
        have A4 := A4.below hb0
        have A5 := A5.below hb0
        have HB : Below w.heap.size w v0 := bstep HB hb0
        clear a1 a2 a3 a4 a5 b1 b2 b3 b4 b5 c1 c2 c3 c4 c5 d1 d2 d3 d4 d5 e1 e2 e3 e4 e5 hb0 HC
        obtain ⟨a1, a2, a3, a4, a5⟩ := id A1
        obtain ⟨b1, b2, b3, b4, b5⟩ := id A2
        obtain ⟨c1, c2, c3, c4, c5⟩ := id A3
        obtain ⟨d1, d2, d3, d4, d5⟩ := id A4
        obtain ⟨e1, e2, e3, e4, e5⟩ := id A5
        go_wp2_with fail
        refine (sub_any ph pl dh dl HP.out HD.out _).mono ?_
        rintro e v1 ⟨h, l, c, S, rfl, hb3⟩
        obtain ⟨_, n2, n3⟩ := MM.out h l c S
        have N3 := Lib.hid n3
        have m2 : IntKind.u64.wrap ((ah : Int) - (c : Int)) = ((ah - c : Nat) : Int) := wrap_less n2 HO.out
        have B1 := Lib.hid (A1.below hb3)
        have B2 := Lib.hid (A2.below hb3)
        have B3 := Lib.hid (A3.below hb3)
        have B4 := Lib.hid (A4.below hb3)
        have B5 := Lib.hid (A5.below hb3)
        have HB1 : Below w.heap.size w v1 := bstep HB hb3
        clear a1 a2 a3 a4 a5 b1 b2 b3 b4 b5 c1 c2 c3 c4 c5 d1 d2 d3 d4 d5 e1 e2 e3 e4 e5 A1 A2 A3 A4 A5 hb3 n2 n3 S MM HB
        obtain ⟨a1, a2, a3, a4, a5⟩ := id B1.out
        go_wp2
        go_roundg (gk - 1)
        case measure => omega
        case rel =>
          refine ⟨gk - 1, ah - c, h, l, rfl, rfl, rfl, N3.out, ?_, ?_, ?_, ?_, ?_, ?_⟩
          · exact Holds2.put B1.out
          · exact Holds2.far (Holds2.far B2.out (by show _ ≠ _; dsimp only; omega) _) (by show _ ≠ _; dsimp only; omega) _
          · exact Holds2.far (Holds2.far B3.out (by show _ ≠ _; dsimp only; omega) _) (by show _ ≠ _; dsimp only; omega) _
          · exact Holds2.far (Holds2.far B4.out (by show _ ≠ _; dsimp only; omega) _) (by show _ ≠ _; dsimp only; omega) _
          · exact Holds2.far (Holds2.far B5.out (by show _ ≠ _; dsimp only; omega) _) (by show _ ≠ _; dsimp only; omega) _
          · exact (HB1.setCell (by show w.heap.size ≤ w2.heap.size; omega) _).setCell (by show w.heap.size ≤ w2.heap.size; omega) _
    · have DD := Lib.hid (fun h l c => @mend_done ah al v dh dl gk O ph pl h l c HL.out HM.out k)
      clear k HM
      rcases T with T | ⟨T1, T2⟩
      · have t1 : decide (ah < O) = false := by simp; omega
        have t2 : ((O : Int) == (ah : Int)) = false := by simp; omega
        clear T
        go_wp2_with fail
        refine (sub_any al v ph pl HL.out HP.out _).mono ?_
        rintro e v1 ⟨h, l, c, S, rfl, hb3⟩
        have F := Lib.hid (DD.out h l c S)
        have HB1 : Below w.heap.size w v1 := bstep HB hb3
        have B5 := Lib.hid (A5.below hb3)
        clear a1 a2 a3 a4 a5 b1 b2 b3 b4 b5 c1 c2 c3 c4 c5 d1 d2 d3 d4 d5 e1 e2 e3 e4 e5 A1 A2 A3 A4 A5 hb3 S DD HB
        obtain ⟨e1, e2, e3, e4, e5⟩ := id B5.out
        have e6 : w.heap.size + 1 + 1 < v1.heap.size + 1 := by omega
        go_wp2
        go_region
        all_goals
          go_wp2
          refine bodyPost_ret (v := .tuple #[.int .u64 (gk : Int), U h l]) (by simp [results, Tryd.results62, go_sem, *]) rfl ⟨gk, h, l, F.out, rfl, ?_⟩
          clear e1 e2 e3 e4 e5
          go_grown
      · subst T1
        have C := wcmp_any ph pl al v HP.out HL.out
        have t3 : decide (0 < cmpN (nv ph pl) (nv al v)) = false := by
          rcases cmpN_range (nv ph pl) (nv al v) with ⟨e, _⟩ | ⟨e, _⟩ | ⟨e, e'⟩
          · rw [e]; decide
          · rw [e]; decide
          · omega
        have HC := Lib.hid C
        generalize cmpN (nv ph pl) (nv al v) = cv at *
        clear T2 C
        go_wp2_with fail
        refine (HC.out _).mono ?_
        rintro e v0 ⟨rfl, hb0⟩
        have A1 := A1.below hb0
        have A2 := A2.below hb0
        have A3 := A3.below hb0
        have A4 := A4.below hb0
        have A5 := A5.below hb0
        have HB : Below w.heap.size w v0 := bstep HB hb0
        clear a1 a2 a3 a4 a5 b1 b2 b3 b4 b5 c1 c2 c3 c4 c5 d1 d2 d3 d4 d5 e1 e2 e3 e4 e5 hb0 HC
        obtain ⟨a1, a2, a3, a4, a5⟩ := id A1
        obtain ⟨b1, b2, b3, b4, b5⟩ := id A2
        obtain ⟨c1, c2, c3, c4, c5⟩ := id A3
        obtain ⟨d1, d2, d3, d4, d5⟩ := id A4
        obtain ⟨e1, e2, e3, e4, e5⟩ := id A5
        go_wp2_with fail
        refine (sub_any al v ph pl HL.out HP.out _).mono ?_
        rintro e v1 ⟨h, l, c, S, rfl, hb3⟩
        have F := Lib.hid (DD.out h l c S)
        have HB1 : Below w.heap.size w v1 := bstep HB hb3
        have B5 := Lib.hid (A5.below hb3)
        clear a1 a2 a3 a4 a5 b1 b2 b3 b4 b5 c1 c2 c3 c4 c5 d1 d2 d3 d4 d5 e1 e2 e3 e4 e5 A1 A2 A3 A4 A5 hb3 S DD HB
        obtain ⟨e1, e2, e3, e4, e5⟩ := id B5.out
        have e6 : w.heap.size + 1 + 1 < v1.heap.size + 1 := by omega
        go_wp2
        go_region
        all_goals
          go_wp2
          refine bodyPost_ret (v := .tuple #[.int .u64 (gk : Int), U h l]) (by simp [results, Tryd.results62, go_sem, *]) rfl ⟨gk, h, l, F.out, rfl, ?_⟩
          clear e1 e2 e3 e4 e5
          go_grown
end Go.Proofs.YtkkddflclakphaaDoor

/-
  What awake needs of package wide: a quotient by a word, 10 to the 38, and how many digits that has, each as a contract of its call.
-/
namespace Go.Proofs.YtkkddflclakphaaDoor
open Go.RowKit

def RetUUB (F : Nat → Nat → Nat → Nat → Prop) (b : Bool) (w : World) (e : Ending) (w' : World) : Prop :=
  ∃ h l h' l' : Nat, F h l h' l' ∧ e = .returned (.tuple #[U h l, U h' l', .bool b]) ∧ Below w.heap.size w w'

/-- What a quotient of 128 bits is. -/
def QuoF (hh hl lh ll dh dl h l h' l' : Nat) : Prop := WW h l ∧ WW h' l' ∧ nv h' l' < nv dh dl ∧ nv h l * nv dh dl + nv h' l' = nv2 hh hl lh ll

theorem quoF_low {hh hl lh ll x h l h' l' r : Nat} (hx : x < 18446744073709551616) (k : nv hh hl < x) (f : DivWordF hh hl lh ll x h l h' l' r) (h2 : WW lh ll) : QuoF hh hl lh ll 0 x h' l' 0 r := by
  obtain ⟨f1, f2, f3, f4⟩ := f
  have e : nv 0 x = x := by simp [nv]
  have er : nv 0 r = r := by simp [nv]
  refine ⟨f2, ⟨by decide, by omega⟩, by rw [e, er]; exact f3, ?_⟩
  have hq : nv h l = 0 := by
    rcases Nat.eq_zero_or_pos (nv h l) with z | z
    · exact z
    · exfalso
      have a1 := nv_lt h2
      have a2 : B128 ≤ nv h l * B128 := Nat.le_mul_of_pos_left _ z
      have a3 : nv hh hl + 1 ≤ x := k
      have a4 := Nat.mul_le_mul_right B128 a3
      have a5 : B128 * x ≤ nv2 h l h' l' * x := Nat.mul_le_mul_right x (by unfold nv2; omega)
      rw [Nat.mul_comm B128 x] at a5
      unfold nv2 at f4 a5
      rw [Nat.add_mul, Nat.one_mul] at a4
      generalize (nv h l * B128 + nv h' l') * x = A at *
      generalize nv hh hl * B128 = C at *
      generalize x * B128 = E at *
      omega
  rw [e, er]
  unfold nv2 at f4 ⊢
  rw [hq, Nat.zero_mul, Nat.zero_add] at f4
  exact f4

theorem ret_uu0 (h l r : Nat) : Value.tuple #[U h l, .agg #[.int .u64 0, .int .u64 (r : Int)], .bool true] = Value.tuple #[U h l, U 0 r, .bool true] := rfl

set_option maxHeartbeats 1000000 in
theorem div_low (hh hl lh ll x : Nat) (h1 : WW hh hl) (h2 : WW lh ll) (hx : x < 18446744073709551616) (k : nv hh hl < x) (w : World) :
    Calls Tryd.prog 32 #[U hh hl, U lh ll, .agg #[.int .u64 0, .int .u64 (x : Int)]] w (RetUUB (QuoF hh hl lh ll 0 x) true w) := by
  have C := wcmp_any hh hl 0 x h1 ⟨by decide, hx⟩
  rw [cmpN_lt (by simpa [nv] using k : nv hh hl < nv 0 x)] at C
  have HC := Lib.hid C
  clear C
  go_enter Tryd.func32, Tryd.ntmps32
  go_wp2_with fail
  refine (HC.out _).mono ?_
  rintro e w1 ⟨rfl, hb1⟩
  have Hb1 : Below w.heap.size w w1 := bstep (by go_grown) hb1
  obtain ⟨z0, z1, z2, z3, z4⟩ : w.heap.size < w1.heap.size ∧ w.heap.size + 1 < w1.heap.size ∧ w.heap.size + 1 + 1 < w1.heap.size ∧ w.heap.size + 1 + 1 + 1 < w1.heap.size ∧ w.heap.size + 1 + 1 + 1 + 1 < w1.heap.size := by have := hb1.size; simp at this; omega
  obtain ⟨hc, hf⟩ := bcell hb1
  clear hb1 HC
  go_wp2_with fail
  refine (divWord_any hh hl lh ll x h1 h2 (by omega) hx _).mono ?_
  rintro e w2 ⟨h, l, h', l', r, F, rfl, hb2⟩
  have Hb2 : Below w.heap.size w w2 := bstep Hb1 hb2
  obtain ⟨x0, x1, x2, x3, x4⟩ : w.heap.size < w2.heap.size ∧ w.heap.size + 1 < w2.heap.size ∧ w.heap.size + 1 + 1 < w2.heap.size ∧ w.heap.size + 1 + 1 + 1 < w2.heap.size ∧ w.heap.size + 1 + 1 + 1 + 1 < w2.heap.size := by have := hb2.size; omega
  have G3 := Lib.hid (Holds2.below (by simp [Holds2, go_sem, *]) hb2 : Holds2 w2 (w.heap.size + 1 + 1 + 1) 0 0)
  have G4 := Lib.hid (Holds2.below (by simp [Holds2, go_sem, *]) hb2 : Holds2 w2 (w.heap.size + 1 + 1 + 1 + 1) 0 0)
  clear hb2 hc hf
  obtain ⟨a1, a2, a3, a4, a5⟩ := G3.out
  obtain ⟨b1, b2, b3, b4, b5⟩ := G4.out
  obtain ⟨y0, y1⟩ : w.heap.size + 1 + 1 + 1 < w2.heap.size + 1 ∧ w.heap.size + 1 + 1 + 1 + 1 < w2.heap.size + 1 := by omega
  obtain ⟨y2, y3⟩ : w.heap.size + 1 + 1 + 1 < w2.heap.size + 1 + 1 ∧ w.heap.size + 1 + 1 + 1 + 1 < w2.heap.size + 1 + 1 := by omega
  go_wp2
  go_region_held3 (fun w' => w'.cell? ⟨w2.heap.size + 1, 0, none⟩ = some (.int .u64 (h' : Int)) ∧ w'.cell? ⟨w2.heap.size + 1, 1, none⟩ = some (.int .u64 (l' : Int))) (simp [go_sem, *])
    (first | (go_at_call 30; refine (wof_any r _).mono ?_; rintro e w' ⟨rfl, o1, rfl⟩))
  all_goals
    go_wp2
    refine bodyPost_ret (v := .tuple #[U h' l', U 0 r, .bool true]) (by simp [results, Tryd.results32, go_sem, *]) rfl ⟨_, _, _, _, quoF_low hx k F h2, rfl, ?_⟩
    clear a1 a2 a3 a4 a5 b1 b2 b3 b4 b5 G3 G4
    go_grown
end Go.Proofs.YtkkddflclakphaaDoor

/-
  The quotient of package wide, as a contract of its call, by every divisor.
-/
namespace Go.Proofs.YtkkddflclakphaaDoor
open Go.RowKit

theorem left_fits {h l s h' l' : Nat} (f : LeftF h l s h' l') (k : nv h l * 2 ^ s < B128) : WW h' l' ∧ nv h' l' = nv h l * 2 ^ s := by
  refine ⟨f.1, ?_⟩
  have := f.2
  rw [Nat.div_eq_of_lt k, Nat.zero_mul, Nat.add_zero] at this
  exact this
theorem left_over {h l s h' l' : Nat} (hs : s ≤ 63) (f : LeftF h l s h' l') : nv h' l' = nv h l % 2 ^ (128 - s) * 2 ^ s := by
  have e : 2 ^ (128 - s) * 2 ^ s = B128 := by rw [← Nat.pow_add, show 128 - s + s = 128 by omega]; rfl
  rw [← Sh.mul_mod_of e]
  have a := f.2
  have b := nv_lt f.1
  have c := Nat.div_add_mod' (nv h l * 2 ^ s) B128
  generalize nv h l * 2 ^ s / B128 * B128 = m at *
  omega
theorem high_word {h l s : Nat} (hs : s ≤ 63) (hl : l < 18446744073709551616) : nv h l / 2 ^ (128 - s) = h / 2 ^ (64 - s) := by
  rw [show 128 - s = 64 + (64 - s) by omega, Nat.pow_add, ← Nat.div_div_eq_div_mul]
  congr 1
  unfold nv
  rw [show (2 : Nat) ^ 64 = 18446744073709551616 from rfl]
  omega

def PrepF (hh hl lh dh dl s Dh Dl xh xl : Nat) : Prop :=
  bits BinOp.or .u64 (xl : Int) ((lh : Int) / 2 ^ (64 - s)) = ((xl + lh / 2 ^ (64 - s) : Nat) : Int) ∧ WW xh (xl + lh / 2 ^ (64 - s)) ∧ 0 < Dh ∧ nv Dh Dl = nv dh dl * 2 ^ s ∧ nv xh (xl + lh / 2 ^ (64 - s)) = nv hh hl * 2 ^ s + lh / 2 ^ (64 - s)

theorem div_prep {hh hl lh dh dl s Dh Dl xh xl : Nat} (hlh : lh < 18446744073709551616) (hd : WW dh dl) (k : nv hh hl < nv dh dl) (L : LzF dh s) (f1 : LeftF dh dl s Dh Dl) (f2 : LeftF hh hl s xh xl) : PrepF hh hl lh dh dl s Dh Dl xh xl := by
  obtain ⟨l1, l2, l3⟩ := L
  have e := Sh.pow64 l1
  have hp : 0 < 2 ^ s := Nat.two_pow_pos s
  have b1 : nv dh dl * 2 ^ s < B128 := by
    have q1 : dh < 2 ^ (64 - s) := by
      rcases Nat.lt_or_ge dh (2 ^ (64 - s)) with h | h
      · exact h
      · have := Nat.mul_le_mul_right (2 ^ s) h
        omega
    have q2 : nv dh dl < 2 ^ (64 - s) * 18446744073709551616 := by
      have := Nat.mul_le_mul_right 18446744073709551616 (Nat.succ_le_of_lt q1)
      rw [Nat.succ_mul] at this
      have := hd.2
      unfold nv
      omega
    have q3 := Nat.mul_lt_mul_of_pos_right q2 hp
    rw [Nat.mul_right_comm, e] at q3
    exact q3
  have b2 : nv hh hl * 2 ^ s < B128 := Nat.lt_trans (Nat.mul_lt_mul_of_pos_right k hp) b1
  obtain ⟨g1, g2⟩ := left_fits f1 b1
  obtain ⟨g3, g4⟩ := left_fits f2 b2
  have x0 : xl % 2 ^ s = 0 := by
    have d1 : 2 ^ s ∣ xh * 18446744073709551616 + xl := ⟨nv hh hl, by rw [Nat.mul_comm (2 ^ s)]; exact g4⟩
    have d2 : 2 ^ s ∣ xh * 18446744073709551616 := ⟨xh * 2 ^ (64 - s), by rw [← e, Nat.mul_comm (2 ^ s), Nat.mul_assoc]⟩
    exact Nat.mod_eq_zero_of_dvd ((Nat.dvd_add_right d2).1 d1)
  have lt : lh / 2 ^ (64 - s) < 2 ^ s := Nat.div_lt_of_lt_mul (by rw [e]; exact hlh)
  have xe : xl = xl / 2 ^ s * 2 ^ s := by have := Nat.div_add_mod' xl (2 ^ s); omega
  have xlt : xl / 2 ^ s < 2 ^ (64 - s) := Nat.div_lt_of_lt_mul (by rw [Nat.mul_comm, e]; exact g3.2)
  have xs : xl + lh / 2 ^ (64 - s) < 18446744073709551616 := by
    have := Nat.mul_le_mul_right (2 ^ s) (Nat.succ_le_of_lt xlt)
    rw [Nat.succ_mul, e] at this
    omega
  refine ⟨?_, ⟨g3.1, xs⟩, ?_, g2, ?_⟩
  · rw [divPow, bits_or_u64_nat _ _ g3.2 (by omega)]
    conv => lhs; rw [xe]
    rw [Sh.or_sum'' lt, ← xe]
  · rcases Nat.eq_zero_or_pos Dh with z | z
    · exfalso
      subst z
      have : 18446744073709551616 ≤ nv dh dl := by
        have : 0 < dh := by
          rcases Nat.eq_zero_or_pos dh with z | z
          · subst z; omega
          · exact z
        unfold nv; omega
      have q := Nat.mul_le_mul this hp
      have := g1.2
      unfold nv at g2 q
      omega
    · exact z
  · rw [← g4]; unfold nv; omega

theorem prep_lt {hh hl lh ll dh dl s Dh Dl xh xl : Nat} (h2 : WW lh ll) (k : nv hh hl < nv dh dl) (hs : s ≤ 63) (P : PrepF hh hl lh dh dl s Dh Dl xh xl) : nv xh (xl + lh / 2 ^ (64 - s)) < nv Dh Dl := by
  obtain ⟨_, _, _, p4, p5⟩ := P
  have e : 2 ^ (128 - s) * 2 ^ s = B128 := by rw [← Nat.pow_add, show 128 - s + s = 128 by omega]; rfl
  rw [p4, p5]
  exact (Dv.shifted e k (nv_lt h2) (high_word hs h2.2).symm rfl).2.1

theorem prep_all {hh hl lh ll dh dl s Dh Dl xh xl yh yl q1 q2 r1h r1l r2h r2l : Nat} (h2 : WW lh ll) (k : nv hh hl < nv dh dl) (hs : s ≤ 63) (P : PrepF hh hl lh dh dl s Dh Dl xh xl) (f3 : LeftF lh ll s yh yl)
    (s1 : StepQ xh (xl + lh / 2 ^ (64 - s)) yh Dh Dl q1 r1h r1l) (s2 : StepQ r1h r1l yl Dh Dl q2 r2h r2l) {rh rl : Nat} (R : RightF r2h r2l s rh rl) : QuoF hh hl lh ll dh dl q1 q2 rh rl := by
  obtain ⟨_, _, _, p4, p5⟩ := P
  have e : 2 ^ (128 - s) * 2 ^ s = B128 := by rw [← Nat.pow_add, show 128 - s + s = 128 by omega]; rfl
  have A := (Dv.shifted e k (nv_lt h2) (high_word hs h2.2).symm (left_over hs f3)).1
  rw [← p5] at A
  obtain ⟨a1, a2, a3, a4⟩ := s1
  obtain ⟨b1, b2, b3, b4⟩ := s2
  obtain ⟨c1, c2⟩ := Dv.final (K := 18446744073709551616) (Nat.two_pow_pos s) p4 A a4 b4 b3
  rw [← R.2] at c1 c2
  exact ⟨⟨a1, b1⟩, R.1, c1, c2⟩

theorem Holds2.put' {W : World} {g a b l : Nat} (H : Holds2 W g a b) : Holds2 (W.setCell ⟨g, 1, none⟩ (.int .u64 (l : Int))) g a l := by
  obtain ⟨a, b, c, d, e⟩ := H
  simp [Holds2, go_sem, *]

set_option maxHeartbeats 4000000 in
theorem div_high (hh hl lh ll dh dl : Nat) (h1 : WW hh hl) (h2 : WW lh ll) (hd : WW dh dl) (k : nv hh hl < nv dh dl) (h0 : 0 < dh) (w : World) :
    Calls Tryd.prog 32 #[U hh hl, U lh ll, U dh dl] w (RetUUB (QuoF hh hl lh ll dh dl) true w) := by
  have C := wcmp_any hh hl dh dl h1 hd
  rw [cmpN_lt k] at C
  have HC := Lib.hid C
  have t0 : ((dh : Int) == 0) = false := by simp; omega
  have HL := Lib.hid (lz_any dh h0 hd.1)
  have H1 := Lib.hid h1
  have H2 := Lib.hid h2
  have HD := Lib.hid hd
  have HK := Lib.hid k
  clear C h1 h2 hd k h0
  go_enter Tryd.func32, Tryd.ntmps32
  go_wp2_with fail
  refine (HC.out _).mono ?_
  rintro e w1 ⟨rfl, hb1⟩
  have B1 : Below w.heap.size w w1 := bstep (by go_grown) hb1
  have A0 := Lib.hid (Holds2.below (by simp [Holds2, go_sem]) hb1 : Holds2 w1 w.heap.size hh hl)
  have A1 := Lib.hid (Holds2.below (by simp [Holds2, go_sem]) hb1 : Holds2 w1 (w.heap.size + 1) lh ll)
  have A2 := Lib.hid (Holds2.below (by simp [Holds2, go_sem]) hb1 : Holds2 w1 (w.heap.size + 1 + 1) dh dl)
  have A3 := Lib.hid (Holds2.below (by simp [Holds2, go_sem]) hb1 : Holds2 w1 (w.heap.size + 1 + 1 + 1) 0 0)
  have A4 := Lib.hid (Holds2.below (by simp [Holds2, go_sem]) hb1 : Holds2 w1 (w.heap.size + 1 + 1 + 1 + 1) 0 0)
  clear hb1 HC
  obtain ⟨c1, c2, c3, c4, c5⟩ := A2.out
  go_wp2_with fail
  refine (HL.out _).mono ?_
  rintro e w' ⟨s, L, rfl, rfl⟩
  have LL := Lib.hid L
  clear L HL
  go_wp2_with fail
  refine (left_any dh dl s LL.out.1 HD.out _).mono ?_
  rintro e w2 ⟨Dh, Dl, F1, rfl, hb2⟩
  have FF1 := Lib.hid F1
  have A0 := Lib.hid (A0.out.below hb2)
  have A1 := Lib.hid (A1.out.below hb2)
  have A2 := Lib.hid (A2.out.below hb2)
  have A3 := Lib.hid (A3.out.below hb2)
  have A4 := Lib.hid (A4.out.below hb2)
  have B2 : Below w.heap.size w w2 := bstep B1 hb2
  clear F1 hb2 c1 c2 c3 c4 c5 B1
  obtain ⟨a1, a2, a3, a4, a5⟩ := A0.out
  obtain ⟨c1, c2, c3, c4, c5⟩ := A2.out
  go_wp2_with fail
  refine (left_any hh hl s LL.out.1 H1.out _).mono ?_
  rintro e w3 ⟨xh, xl, F2, rfl, hb3⟩
  have PP := Lib.hid (div_prep H2.out.1 HD.out HK.out LL.out FF1.out F2)
  have PL := Lib.hid (prep_lt H2.out HK.out LL.out.1 PP.out)
  have A0 := Lib.hid (Holds2.below (Holds2.far (Holds2.far A0.out (by show _ ≠ _; dsimp only; omega) _) (by show _ ≠ _; dsimp only; omega) _) hb3)
  have A1 := Lib.hid (Holds2.below (Holds2.far (Holds2.far A1.out (by show _ ≠ _; dsimp only; omega) _) (by show _ ≠ _; dsimp only; omega) _) hb3)
  have A3 := Lib.hid (Holds2.below (Holds2.far (Holds2.far A3.out (by show _ ≠ _; dsimp only; omega) _) (by show _ ≠ _; dsimp only; omega) _) hb3)
  have A4 := Lib.hid (Holds2.below (Holds2.far (Holds2.far A4.out (by show _ ≠ _; dsimp only; omega) _) (by show _ ≠ _; dsimp only; omega) _) hb3)
  have A2 := Lib.hid (Holds2.below (Holds2.put (h := Dh) (l := Dl) A2.out) hb3)
  have B3 : Below w.heap.size w w3 := bstep (by clear a1 a2 a3 a4 a5 c1 c2 c3 c4 c5; go_grown) hb3
  clear F2 hb3 a1 a2 a3 a4 a5 c1 c2 c3 c4 c5 B2
  have e9 := PP.out.1
  obtain ⟨Xi, hX⟩ := named (xl + lh / 2 ^ (64 - s))
  rw [← hX] at e9
  have HX := Lib.hid hX
  clear hX
  have s63 := LL.out.1
  obtain ⟨a1, a2, a3, a4, a5⟩ := A0.out
  obtain ⟨b1, b2, b3, b4, b5⟩ := A1.out
  go_wp2
  go_region
  go_wp2_with fail
  refine (left_any lh ll s LL.out.1 H2.out _).mono ?_
  rintro e w4 ⟨yh, yl, F3, rfl, hb4⟩
  have hXi := HX.out
  subst hXi
  have FF3 := Lib.hid F3
  have C1 := Lib.hid (Holds2.below (by repeat' (first | (with_reducible exact A1.out) | (with_reducible refine Holds2.drew ?_) | (with_reducible refine Holds2.alloc ?_ _) | (with_reducible refine Holds2.far ?_ ?_ _) | (show _ ≠ _; (try dsimp only); omega))) hb4 : Holds2 w4 (w.heap.size + 1) lh ll)
  have C2 := Lib.hid (Holds2.below (by repeat' (first | (with_reducible exact A2.out) | (with_reducible refine Holds2.drew ?_) | (with_reducible refine Holds2.alloc ?_ _) | (with_reducible refine Holds2.far ?_ ?_ _) | (show _ ≠ _; (try dsimp only); omega))) hb4 : Holds2 w4 (w.heap.size + 1 + 1) Dh Dl)
  have C3 := Lib.hid (Holds2.below (by repeat' (first | (with_reducible exact A3.out) | (with_reducible refine Holds2.drew ?_) | (with_reducible refine Holds2.alloc ?_ _) | (with_reducible refine Holds2.far ?_ ?_ _) | (show _ ≠ _; (try dsimp only); omega))) hb4 : Holds2 w4 (w.heap.size + 1 + 1 + 1) 0 0)
  have C4 := Lib.hid (Holds2.below (by repeat' (first | (with_reducible exact A4.out) | (with_reducible refine Holds2.drew ?_) | (with_reducible refine Holds2.alloc ?_ _) | (with_reducible refine Holds2.far ?_ ?_ _) | (show _ ≠ _; (try dsimp only); omega))) hb4 : Holds2 w4 (w.heap.size + 1 + 1 + 1 + 1) 0 0)
  have C0 := Lib.hid (Holds2.below (by with_reducible exact Holds2.drew (Holds2.put' (Holds2.put A0.out))) hb4 : Holds2 w4 w.heap.size xh (xl + lh / 2 ^ (64 - s)))
  have B4 : Below w.heap.size w w4 := bstep (by clear a1 a2 a3 a4 a5 b1 b2 b3 b4 b5; go_grown) hb4
  clear F3 hb4 a1 a2 a3 a4 a5 b1 b2 b3 b4 b5 B3 A0 A1 A2 A3 A4 e9 HX
  obtain ⟨j1, pw, p0, j2⟩ := PP.out
  clear j1 j2
  have PW := Lib.hid pw
  have P0 := Lib.hid p0
  have P00 := Lib.hid p0
  have DW := Lib.hid FF1.out.1
  clear pw p0 FF1
  generalize hX : xl + lh / 2 ^ (64 - s) = X at *
  have HX := Lib.hid hX
  clear hX
  obtain ⟨a1, a2, a3, a4, a5⟩ := C0.out
  obtain ⟨b1, b2, b3, b4, b5⟩ := C1.out
  obtain ⟨c1, c2, c3, c4, c5⟩ := C2.out
  go_wp2_with fail
  refine (divStep_any xh X yh Dh Dl PW.out FF3.out.1.1 DW.out PL.out P0.out _).mono ?_
  rintro e w5 ⟨q1, r1h, r1l, S1, rfl, hb5⟩
  have SS1 := Lib.hid S1
  have D1 := Lib.hid (Holds2.below (Holds2.put (h := yh) (l := yl) C1.out) hb5)
  have D2 := Lib.hid (Holds2.below (Holds2.far (Holds2.far C2.out (by show _ ≠ _; dsimp only; omega) _) (by show _ ≠ _; dsimp only; omega) _) hb5)
  have D3 := Lib.hid (Holds2.below (Holds2.far (Holds2.far C3.out (by show _ ≠ _; dsimp only; omega) _) (by show _ ≠ _; dsimp only; omega) _) hb5)
  have D4 := Lib.hid (Holds2.below (Holds2.far (Holds2.far C4.out (by show _ ≠ _; dsimp only; omega) _) (by show _ ≠ _; dsimp only; omega) _) hb5)
  have B5 : Below w.heap.size w w5 := bstep (by clear a1 a2 a3 a4 a5 b1 b2 b3 b4 b5 c1 c2 c3 c4 c5; go_grown) hb5
  clear S1 hb5 a1 a2 a3 a4 a5 b1 b2 b3 b4 b5 c1 c2 c3 c4 c5 B4 C0 C1 C2 C3 C4 PL P0 PW
  have r1w := SS1.out.2.1
  have R1W := Lib.hid r1w
  have R1L := Lib.hid SS1.out.2.2.1
  clear r1w
  obtain ⟨b1, b2, b3, b4, b5⟩ := D1.out
  obtain ⟨c1, c2, c3, c4, c5⟩ := D2.out
  have z1 : w.heap.size + 1 < w5.heap.size + 1 := by omega
  have z2 : w.heap.size + 1 + 1 < w5.heap.size + 1 := by omega
  go_wp2_with fail
  refine (divStep_any r1h r1l yl Dh Dl R1W.out FF3.out.1.2 DW.out R1L.out P00.out _).mono ?_
  rintro e w6 ⟨q2, r2h, r2l, S2, rfl, hb6⟩
  have SS2 := Lib.hid S2
  have E3 := Lib.hid (Holds2.below (by repeat' (first | (with_reducible exact D3.out) | (with_reducible refine Holds2.alloc ?_ _))) hb6 : Holds2 w6 (w.heap.size + 1 + 1 + 1) 0 0)
  have E4 := Lib.hid (Holds2.below (by repeat' (first | (with_reducible exact D4.out) | (with_reducible refine Holds2.alloc ?_ _))) hb6 : Holds2 w6 (w.heap.size + 1 + 1 + 1 + 1) 0 0)
  have E5 := Lib.hid (Holds2.below (by simp [Holds2, go_sem]) hb6 : Holds2 w6 w5.heap.size r1h r1l)
  have B6 : Below w.heap.size w w6 := bstep (by clear b1 b2 b3 b4 b5 c1 c2 c3 c4 c5; go_grown) hb6
  have w5s : w.heap.size + 1 + 1 + 1 + 1 < w5.heap.size := D4.out.2.2.2.2
  clear S2 hb6 b1 b2 b3 b4 b5 c1 c2 c3 c4 c5 B5 D1 D2 D3 D4 z1 z2 R1W R1L
  obtain ⟨a1, a2, a3, a4, a5⟩ := E5.out
  go_wp2_with fail
  refine (right_any r2h r2l s LL.out.1 SS2.out.2.1 _).mono ?_
  rintro e w7 ⟨rh, rl, R, rfl, hb7⟩
  have FIN := Lib.hid (prep_all H2.out HK.out LL.out.1 PP.out FF3.out (by rw [HX.out]; exact SS1.out) SS2.out R)
  have G3 := Lib.hid (Holds2.below (Holds2.far (Holds2.far E3.out (by show _ ≠ _; dsimp only; omega) _) (by show _ ≠ _; dsimp only; omega) _) hb7 : Holds2 w7 (w.heap.size + 1 + 1 + 1) 0 0)
  have G4 := Lib.hid (Holds2.below (Holds2.far (Holds2.far E4.out (by show _ ≠ _; dsimp only; omega) _) (by show _ ≠ _; dsimp only; omega) _) hb7 : Holds2 w7 (w.heap.size + 1 + 1 + 1 + 1) 0 0)
  have B7 : Below w.heap.size w w7 := bstep (by clear a1 a2 a3 a4 a5; go_grown) hb7
  clear hb7 a1 a2 a3 a4 a5 B6 E3 E4 E5
  obtain ⟨a1, a2, a3, a4, a5⟩ := G3.out
  obtain ⟨b1, b2, b3, b4, b5⟩ := G4.out
  go_wp2
  refine bodyPost_ret (v := .tuple #[U q1 q2, U rh rl, .bool true]) (by simp [results, Tryd.results32, go_sem, *]) rfl ⟨_, _, _, _, FIN.out, rfl, ?_⟩
  clear a1 a2 a3 a4 a5 b1 b2 b3 b4 b5
  go_grown
end Go.Proofs.YtkkddflclakphaaDoor

/-
  The quotients of package wide that are none, and the quotient in one contract.
-/
namespace Go.Proofs.YtkkddflclakphaaDoor
open Go.RowKit

set_option maxHeartbeats 1000000 in
theorem div_no (hh hl lh ll dh dl : Nat) (h1 : WW hh hl) (hd : WW dh dl) (k : nv dh dl ≤ nv hh hl) (w : World) :
    Calls Tryd.prog 32 #[U hh hl, U lh ll, U dh dl] w fun e w' => e = .returned (.tuple #[U 0 0, U 0 0, .bool false]) ∧ Below w.heap.size w w' := by
  have C := wcmp_any hh hl dh dl h1 hd
  have t0 : decide (0 ≤ cmpN (nv hh hl) (nv dh dl)) = true := by
    rcases cmpN_range (nv hh hl) (nv dh dl) with ⟨e, _⟩ | ⟨e, _⟩ | ⟨e, _⟩
    · omega
    · rw [e]; decide
    · rw [e]; decide
  have HC := Lib.hid C
  generalize cmpN (nv hh hl) (nv dh dl) = cv at *
  clear C k h1 hd
  go_enter Tryd.func32, Tryd.ntmps32
  go_wp2_with fail
  refine (HC.out _).mono ?_
  rintro e w1 ⟨rfl, hb1⟩
  have B1 : Below w.heap.size w w1 := bstep (by go_grown) hb1
  have A3 := Lib.hid (Holds2.below (by simp [Holds2, go_sem]) hb1 : Holds2 w1 (w.heap.size + 1 + 1 + 1) 0 0)
  have A4 := Lib.hid (Holds2.below (by simp [Holds2, go_sem]) hb1 : Holds2 w1 (w.heap.size + 1 + 1 + 1 + 1) 0 0)
  clear hb1 HC
  obtain ⟨a1, a2, a3, a4, a5⟩ := A3.out
  obtain ⟨b1, b2, b3, b4, b5⟩ := A4.out
  go_wp2
  refine bodyPost_ret (v := .tuple #[U 0 0, U 0 0, .bool false]) (by simp [results, Tryd.results32, go_sem, *]) rfl ⟨rfl, ?_⟩
  clear a1 a2 a3 a4 a5 b1 b2 b3 b4 b5
  go_grown

theorem div_yes (hh hl lh ll dh dl : Nat) (h1 : WW hh hl) (h2 : WW lh ll) (hd : WW dh dl) (k : nv hh hl < nv dh dl) (w : World) :
    Calls Tryd.prog 32 #[U hh hl, U lh ll, U dh dl] w (RetUUB (QuoF hh hl lh ll dh dl) true w) := by
  rcases Nat.eq_zero_or_pos dh with z | z
  · subst z
    exact div_low hh hl lh ll dl h1 h2 hd.2 (by simpa [nv] using k) w
  · exact div_high hh hl lh ll dh dl h1 h2 hd k z w

set_option maxHeartbeats 1000000 in
theorem divWord_no (hh hl lh ll : Nat) (w : World) :
    Calls Tryd.prog 59 #[U hh hl, U lh ll, .int .u64 0] w fun e w' => e = .returned (.tuple #[U 0 0, U 0 0, .int .u64 0, .bool false]) ∧ Below w.heap.size w w' := by
  go_enter Tryd.func59, Tryd.ntmps59
  go_wp2
  refine bodyPost_ret (v := .tuple #[U 0 0, U 0 0, .int .u64 0, .bool false]) (by simp [results, Tryd.results59, go_sem, *]) rfl ⟨rfl, ?_⟩
  go_grown

end Go.Proofs.YtkkddflclakphaaDoor

/-
  What awake needs of package wide: 10 to the 38, and how many digits that has, each as a contract of its call.
-/
namespace Go.Proofs.YtkkddflclakphaaDoor
open Go.RowKit

theorem len_any (x : Nat) (h : x < 18446744073709551616) (w : World) : Calls Tryd.prog 84 #[.int .u64 (x : Int)] w fun e w' => e = .returned (.int .i64 (Lib.bitLen x : Int)) ∧ w = w' := by
  refine (Tryd.bits_Len64 (x : Int) w (by omega) (by omega)).mono fun e w' ⟨a, b⟩ => ⟨?_, b.symm⟩
  rw [a, Int.toNat_natCast]

def bl2 (h l : Nat) : Nat := if h = 0 then Lib.bitLen l else 64 + Lib.bitLen h

set_option maxHeartbeats 400000 in
theorem bitLength_any (h l : Nat) (ha : WW h l) (w : World) : Calls Tryd.prog 98 #[U h l] w (RetI (bl2 h l : Int) w) := by
  obtain ⟨a1, a2⟩ := ha
  by_cases h0 : h = 0
  · subst h0
    rw [show bl2 0 l = Lib.bitLen l from rfl]
    go_enter Tryd.func98, Tryd.ntmps98
    go_wp2_with fail
    refine (len_any l a2 _).mono ?_
    rintro e w1 ⟨rfl, rfl⟩
    go_wp2
    go_ret
    exact ⟨rfl, by go_grown⟩
  · rw [show bl2 h l = 64 + Lib.bitLen h from if_neg h0]
    have b : Lib.bitLen h ≤ 64 := Lib.bitLen_le h 64 (Nat.le_refl _) (by simpa using a1)
    have t : ((h : Int) != 0) = true := by simp; omega
    go_enter Tryd.func98, Tryd.ntmps98
    go_wp2_with fail
    refine (len_any h a1 _).mono ?_
    generalize Lib.bitLen h = n at *
    rintro e w1 ⟨rfl, rfl⟩
    go_wp2
    go_ret
    exact ⟨congrArg Ending.returned (int_eq (by omega)), by go_grown⟩

/-- The table of the powers of ten lies where it was laid. -/
def Tab (w : World) : Prop := 0 < w.heap.size ∧ ∀ k : Nat, k < 20 → w.cell? ⟨0, k, none⟩ = some (.int .u64 ((10 ^ k : Nat) : Int))
theorem Tab.below {w w' : World} (h : Tab w) (hb : Below w.heap.size w w') : Tab w' :=
  ⟨Nat.lt_of_lt_of_le h.1 hb.size, fun k hk => (hb.cell (p := ⟨0, k, none⟩) h.1).trans (h.2 k hk)⟩

def ten38h : Nat := 5421010862427522170
def ten38l : Nat := 687399551400673280

theorem nn3 {a b : Nat} (h : a + 1 + 1 + 1 ≤ b) : a < b ∧ a + 1 < b ∧ a + 1 + 1 < b ∧ a < b + 1 ∧ a + 1 < b + 1 ∧ a + 1 + 1 < b + 1 ∧ 0 < b ∧ 0 < b + 1 := by omega
theorem nn2 {a b : Nat} (h : a + 1 + 1 ≤ b) : a < b ∧ a + 1 < b ∧ True ∧ a < b + 1 ∧ a + 1 < b + 1 ∧ True ∧ 0 < b ∧ 0 < b + 1 := ⟨by omega, by omega, trivial, by omega, by omega, trivial, by omega, by omega⟩
theorem ten38_val {o h l : Nat} (m : MulWordF 0 10000000000000000000 10000000000000000000 o h l) : h = ten38h ∧ l = ten38l := by
  obtain ⟨m1, ⟨m2, m3⟩, m4⟩ := m
  unfold nv B128 at m4
  unfold ten38h ten38l
  omega
set_option maxHeartbeats 1000000 in
theorem ten38_any (w : World) (ht : Tab w) : Calls Tryd.prog 31 #[.int .i64 38] w fun e w' => e = .returned (.tuple #[U ten38h ten38l, .bool true]) ∧ Below w.heap.size w w' := by
  obtain ⟨h0, h1⟩ := ht
  have c19 : w.cell? ⟨0, 19, none⟩ = some (.int .u64 10000000000000000000) := h1 19 (by decide)
  have hM := fun W => mulWord_any 0 10000000000000000000 10000000000000000000 ⟨by decide, by decide⟩ (by decide) W
  have HM := Lib.hid hM
  clear h1 hM
  have e19 : IntKind.i64.wrap 19 = 19 := by decide
  have z1 : 0 < w.heap.size + 1 := by omega
  have y0 : w.heap.size < w.heap.size + 1 + 1 := by omega
  have y1 : w.heap.size < w.heap.size + 1 + 1 + 1 := by omega
  have y2 : w.heap.size + 1 < w.heap.size + 1 + 1 + 1 := by omega
  have z2 : 0 < w.heap.size + 1 + 1 := by omega
  have z3 : 0 < w.heap.size + 1 + 1 + 1 := by omega
  go_enter Tryd.func31, Tryd.ntmps31
  go_wp2
  go_region_held3 (fun w' => w'.cell? ⟨0, 19, none⟩ = some (.int .u64 10000000000000000000)) (simp [go_sem, *])
    (first
      | (go_at_call 30; refine (wof_any 10000000000000000000 _).mono ?_; rintro e w' ⟨rfl, o1, rfl⟩)
      | (go_at_call 57; refine (HM.out _).mono ?_; rintro e w3 ⟨o, h, l, M, rfl, hb3⟩; obtain ⟨hc3, hf3⟩ := bcell (bundrew hb3); have Hb3 : Below w.heap.size w w3 := bstep (by go_grown) hb3; have sz := hb3.size; simp only [World.size_alloc, World.size_drew] at sz; first | obtain ⟨u1, u2, u3, u4, u5, u6, u7, u8⟩ := nn3 sz | obtain ⟨u1, u2, u3, u4, u5, u6, u7, u8⟩ := nn2 sz))
  all_goals
    go_wp2
    obtain ⟨rfl, rfl⟩ := ten38_val M
    refine bodyPost_ret (v := .tuple #[U ten38h ten38l, .bool true]) (by simp [results, Tryd.results31, go_sem, *]) rfl ⟨rfl, ?_⟩
    clear hc3 hf3
    go_grown
end Go.Proofs.YtkkddflclakphaaDoor

/-
  The powers of ten of package wide, as a contract of the call.
-/
namespace Go.Proofs.YtkkddflclakphaaDoor
open Go.RowKit

/-! ### Powers of ten -/
/-- What Ten hands back. -/
def TenF (k h l : Nat) : Prop := WW h l ∧ nv h l = 10 ^ k

theorem ten_word {k : Nat} (h : k ≤ 19) : 10 ^ k < 18446744073709551616 := Nat.lt_of_le_of_lt (Nat.pow_le_pow_right (by decide) h) (by decide)

set_option maxHeartbeats 1000000 in
theorem ten_low (k : Nat) (hk : k ≤ 19) (w : World) (ht : Tab w) : Calls Tryd.prog 31 #[.int .i64 (k : Int)] w fun e w' => ∃ h l : Nat, TenF k h l ∧ e = .returned (.tuple #[U h l, .bool true]) ∧ Below w.heap.size w w' := by
  obtain ⟨h0, h1⟩ := ht
  have c := h1 k (by omega)
  have F : TenF k 0 (10 ^ k) := ⟨⟨by decide, ten_word hk⟩, by simp [nv]⟩
  have HF := Lib.hid F
  clear h1 F
  generalize 10 ^ k = p at *
  have t1 : decide ((k : Int) < 0) = false := by simp
  have t2 : decide (38 < (k : Int)) = false := by simp; omega
  have t3 : decide ((k : Int) ≤ 19) = true := by simp; omega
  have t4 : k < 20 := by omega
  clear hk
  go_enter Tryd.func31, Tryd.ntmps31
  go_wp2_with fail
  refine (wof_any p _).mono ?_
  rintro e w' ⟨rfl, o1, rfl⟩
  go_wp2
  refine bodyPost_ret (v := .tuple #[U 0 p, .bool true]) (by simp [results, Tryd.results31, go_sem, *]) rfl ⟨0, p, HF.out, rfl, ?_⟩
  go_grown

set_option maxHeartbeats 1000000 in
theorem ten_no (k : Int) (hk : k < 0 ∨ 38 < k) (w : World) : Calls Tryd.prog 31 #[.int .i64 k] w fun e w' => e = .returned (.tuple #[U 0 0, .bool false]) ∧ Below w.heap.size w w' := by
  rcases Int.lt_or_le k 0 with h | h
  · have t1 : decide (k < 0) = true := by simpa using h
    clear hk h
    go_enter Tryd.func31, Tryd.ntmps31
    go_wp2
    refine bodyPost_ret (v := .tuple #[U 0 0, .bool false]) (by simp [results, Tryd.results31, go_sem, *]) rfl ⟨rfl, ?_⟩
    go_grown
  · have t1 : decide (k < 0) = false := by simp; omega
    have t2 : decide (38 < k) = true := by simp; omega
    clear hk h
    go_enter Tryd.func31, Tryd.ntmps31
    go_wp2
    refine bodyPost_ret (v := .tuple #[U 0 0, .bool false]) (by simp [results, Tryd.results31, go_sem, *]) rfl ⟨rfl, ?_⟩
    go_grown

theorem ten_high_val {j o h l : Nat} (hj : j ≤ 19) (m : MulWordF 0 10000000000000000000 (10 ^ j) o h l) : TenF (j + 19) h l := by
  obtain ⟨m1, m2, m3⟩ := m
  refine ⟨m2, ?_⟩
  have e : nv 0 10000000000000000000 * 10 ^ j = 10 ^ (j + 19) := by rw [Nat.pow_add, Nat.mul_comm]; rfl
  rw [e] at m3
  have b : 10 ^ (j + 19) < B128 := Nat.lt_of_le_of_lt (Nat.pow_le_pow_right (by decide) (show j + 19 ≤ 38 by omega)) (by decide)
  exact no_carry _ _ _ _ m3 b

set_option maxHeartbeats 2000000 in
theorem ten_high (k : Nat) (hk : 19 < k) (hk' : k ≤ 38) (w : World) (ht : Tab w) : Calls Tryd.prog 31 #[.int .i64 (k : Int)] w fun e w' => ∃ h l : Nat, TenF k h l ∧ e = .returned (.tuple #[U h l, .bool true]) ∧ Below w.heap.size w w' := by
  obtain ⟨j, rfl⟩ : ∃ j, k = j + 19 := ⟨k - 19, by omega⟩
  obtain ⟨h0, h1⟩ := ht
  have c19 : w.cell? ⟨0, 19, none⟩ = some (.int .u64 10000000000000000000) := h1 19 (by decide)
  have c := h1 j (by omega)
  have HM := Lib.hid (fun W => mulWord_any 0 10000000000000000000 (10 ^ j) ⟨by decide, by decide⟩ (ten_word (by omega)) W)
  have HV := Lib.hid (fun o h l => @ten_high_val j o h l (by omega))
  clear h1
  generalize 10 ^ j = p at *
  obtain ⟨ki, hki⟩ := named (j + 19)
  have t1 : decide (ki < 0) = false := by simp; omega
  have t2 : decide (38 < ki) = false := by simp; omega
  have t3 : decide (ki ≤ 19) = false := by simp; omega
  have t4 : IntKind.i64.wrap (ki - 19) = (j : Int) := by rw [IntKind.wrap_i64]; omega
  have t5 : j < 20 := by omega
  have t6 : (0 : Int) ≤ (j : Int) := by omega
  have t7 : (j : Int) < 20 := by omega
  have e19 : IntKind.i64.wrap 19 = 19 := by decide
  have z1 : 0 < w.heap.size + 1 := by omega
  have y0 : w.heap.size < w.heap.size + 1 + 1 := by omega
  have y1 : w.heap.size < w.heap.size + 1 + 1 + 1 := by omega
  have y2 : w.heap.size + 1 < w.heap.size + 1 + 1 + 1 := by omega
  have z2 : 0 < w.heap.size + 1 + 1 := by omega
  have z3 : 0 < w.heap.size + 1 + 1 + 1 := by omega
  rw [← hki]
  clear hki hk hk'
  go_enter Tryd.func31, Tryd.ntmps31
  go_wp2
  go_region_held3 (fun w' => w'.cell? ⟨0, 19, none⟩ = some (.int .u64 10000000000000000000) ∧ w'.cell? ⟨0, j, none⟩ = some (.int .u64 (p : Int))) (simp [go_sem, *])
    (first
      | (go_at_call 30; refine (wof_any 10000000000000000000 _).mono ?_; rintro e w' ⟨rfl, o1, rfl⟩)
      | (go_at_call 57; refine (HM.out _).mono ?_; rintro e w3 ⟨o, h, l, M, rfl, hb3⟩; obtain ⟨hc3, hf3⟩ := bcell (bundrew hb3); have Hb3 : Below w.heap.size w w3 := bstep (by go_grown) hb3; have sz := hb3.size; simp only [World.size_alloc, World.size_drew] at sz; first | obtain ⟨u1, u2, u3, u4, u5, u6, u7, u8⟩ := nn3 sz | obtain ⟨u1, u2, u3, u4, u5, u6, u7, u8⟩ := nn2 sz))
  all_goals
    have V := Lib.hid (HV.out o h l M)
    clear M HM HV
    go_wp2
    refine bodyPost_ret (v := .tuple #[U h l, .bool true]) (by simp [results, Tryd.results31, go_sem, *]) rfl ⟨h, l, V.out, rfl, ?_⟩
    clear hc3 hf3
    go_grown

theorem ten_yes (k : Nat) (hk : k ≤ 38) (w : World) (ht : Tab w) : Calls Tryd.prog 31 #[.int .i64 (k : Int)] w fun e w' => ∃ h l : Nat, TenF k h l ∧ e = .returned (.tuple #[U h l, .bool true]) ∧ Below w.heap.size w w' := by
  rcases Nat.lt_or_ge 19 k with h | h
  · exact ten_high k h hk w ht
  · exact ten_low k h w ht
end Go.Proofs.YtkkddflclakphaaDoor

/-
  Plain arithmetic of decimal digits, the lowest first: no program in sight.
-/
namespace Go.Proofs.YtkkddflclakphaaDoor.Dg

/-- The number of some digits. -/
def val : List Nat → Nat
  | [] => 0
  | d :: r => d + 10 * val r
/-- The digits of a number. -/
def dg (n : Nat) : List Nat := if n = 0 then [] else (n % 10) :: dg (n / 10)
termination_by n
decreasing_by omega

theorem dg_zero : dg 0 = [] := by rw [dg, if_pos rfl]
theorem dg_pos {n : Nat} (h : n ≠ 0) : dg n = (n % 10) :: dg (n / 10) := by rw [dg, if_neg h]

theorem val_dg (n : Nat) : val (dg n) = n := by
  induction n using Nat.strongRecOn with
  | _ n ih =>
    by_cases h : n = 0
    · subst h; rw [dg_zero]; rfl
    · rw [dg_pos h, val, ih (n / 10) (by omega)]; omega
theorem dg_lt (n : Nat) : ∀ d ∈ dg n, d < 10 := by
  induction n using Nat.strongRecOn with
  | _ n ih =>
    by_cases h : n = 0
    · subst h; rw [dg_zero]; intro d hd; cases hd
    · rw [dg_pos h]
      intro d hd
      rcases List.mem_cons.1 hd with rfl | hd
      · omega
      · exact ih (n / 10) (by omega) d hd
theorem dg_length_le {n k : Nat} (h : n < 10 ^ k) : (dg n).length ≤ k := by
  induction k generalizing n with
  | zero => have : n = 0 := by simpa using h
            subst this; rw [dg_zero]; exact Nat.le_refl _
  | succ k ih =>
    by_cases h0 : n = 0
    · subst h0; rw [dg_zero]; exact Nat.zero_le _
    · rw [dg_pos h0, List.length_cons]
      have : n / 10 < 10 ^ k := by rw [Nat.pow_succ] at h; omega
      have := ih this
      omega
/-- Digits whose last one is not 0 are those of their number. -/
theorem canon : ∀ (l : List Nat), (∀ d ∈ l, d < 10) → l.getLast? ≠ some 0 → l = dg (val l)
  | [], _, _ => by rw [val, dg_zero]
  | [d], h, k => by
    have h1 : d < 10 := h d (by simp)
    have h2 : d ≠ 0 := fun e => k (by simp [e])
    have e : val [d] = d := by simp [val]
    rw [e, dg_pos h2, Nat.mod_eq_of_lt h1, Nat.div_eq_of_lt h1, dg_zero]
  | d :: e :: r, h, k => by
    have ih := canon (e :: r) (fun x hx => h x (List.mem_cons_of_mem _ hx)) (by simpa using k)
    have h1 : d < 10 := h d (by simp)
    have hv : val (e :: r) ≠ 0 := fun z => by rw [z, dg_zero] at ih; cases ih
    rw [val, dg_pos (by omega), show (d + 10 * val (e :: r)) % 10 = d by omega, show (d + 10 * val (e :: r)) / 10 = val (e :: r) by omega, ← ih]

theorem val_append (l m : List Nat) : val (l ++ m) = val l + 10 ^ l.length * val m := by
  induction l with
  | nil => simp [val]
  | cons d r ih => simp only [List.cons_append, val, ih, List.length_cons, Nat.pow_succ]; rw [Nat.mul_add, ← Nat.mul_assoc, Nat.mul_comm 10 (10 ^ r.length)]; omega
theorem val_zeros : ∀ (l : List Nat), (∀ d ∈ l, d = 0) → val l = 0
  | [], _ => rfl
  | d :: r, h => by rw [val, val_zeros r (fun x hx => h x (List.mem_cons_of_mem _ hx)), h d (by simp)]

/-- Times x, and c more, digit by digit. -/
def small (x : Nat) : List Nat → Nat → List Nat
  | [], c => dg c
  | d :: r, c => ((d * x + c) % 10) :: small x r ((d * x + c) / 10)
theorem val_small (x : Nat) : ∀ (l : List Nat) (c : Nat), val (small x l c) = val l * x + c
  | [], c => by rw [small, val_dg, val]; omega
  | d :: r, c => by
    rw [small, val, val_small x r, val, Nat.add_mul, Nat.mul_assoc]
    generalize val r * x = y
    generalize d * x = z
    omega
theorem small_lt (x : Nat) : ∀ (l : List Nat) (c : Nat), ∀ d ∈ small x l c, d < 10
  | [], c => dg_lt c
  | d :: r, c => by
    intro e he
    rcases List.mem_cons.1 he with rfl | he
    · omega
    · exact small_lt x r _ e he
theorem small_length (x : Nat) (hx : x ≤ 4294967296) : ∀ (l : List Nat) (c : Nat), (∀ d ∈ l, d < 10) → c ≤ 4294967296 → (small x l c).length ≤ l.length + 10
  | [], c, _, hc => by rw [small]; have := @dg_length_le c 10 (by omega); simp; omega
  | d :: r, c, h, hc => by
    have h1 : d ≤ 9 := Nat.le_of_lt_succ (h d (by simp))
    have h2 : d * x ≤ 9 * 4294967296 := Nat.mul_le_mul h1 hx
    have := small_length x hx r ((d * x + c) / 10) (fun y hy => h y (List.mem_cons_of_mem _ hy)) (by omega)
    simp only [small, List.length_cons]
    omega
theorem small_step (x : Nat) (a : List Nat) (k c : Nat) (h : ¬ (a.length ≤ k ∧ c = 0)) : small x (a.drop k) c = ((a.getD k 0 * x + c) % 10) :: small x (a.drop (k + 1)) ((a.getD k 0 * x + c) / 10) := by
  rcases Nat.lt_or_ge k a.length with z | z
  · rw [List.drop_eq_getElem_cons z, small]
    simp [List.getD, z]
  · have hc : c ≠ 0 := fun e => h ⟨z, e⟩
    rw [List.drop_eq_nil_of_le z, List.drop_eq_nil_of_le (by omega), small, small, dg_pos hc, show a.getD k 0 = 0 from by simp [List.getD, z]]
    simp
theorem small_done (x : Nat) (a : List Nat) (k c : Nat) (h : a.length ≤ k ∧ c = 0) : small x (a.drop k) c = [] := by
  rw [List.drop_eq_nil_of_le h.1, h.2, small, dg_zero]
theorem getD_lt {a : List Nat} (h : ∀ d ∈ a, d < 10) (k : Nat) : a.getD k 0 ≤ 9 := by
  rcases Nat.lt_or_ge k a.length with z | z
  · have := h a[k] (List.getElem_mem z)
    simp [List.getD, z]; omega
  · simp [List.getD, z]
end Go.Proofs.YtkkddflclakphaaDoor.Dg

/-
  Plain arithmetic of sums and comparisons of decimal digits: no program in sight.
-/
namespace Go.Proofs.YtkkddflclakphaaDoor.Dg

/-- The sum, digit by digit. -/
def add : List Nat → List Nat → Nat → List Nat
  | [], [], c => dg c
  | [], b :: s, c => ((0 + b + c) % 10) :: add [] s ((0 + b + c) / 10)
  | a :: r, [], c => ((a + 0 + c) % 10) :: add r [] ((a + 0 + c) / 10)
  | a :: r, b :: s, c => ((a + b + c) % 10) :: add r s ((a + b + c) / 10)
theorem val_add : ∀ (a b : List Nat) (c : Nat), val (add a b c) = val a + val b + c
  | [], [], c => by rw [add, val_dg, val]; omega
  | [], b :: s, c => by simp only [add, val, val_add [] s]; omega
  | a :: r, [], c => by simp only [add, val, val_add r []]; omega
  | a :: r, b :: s, c => by simp only [add, val, val_add r s]; omega
theorem add_lt : ∀ (a b : List Nat) (c : Nat), ∀ d ∈ add a b c, d < 10
  | [], [], c => by rw [add]; exact dg_lt c
  | [], b :: s, c => by
    rw [add]
    intro e he
    rcases List.mem_cons.1 he with rfl | he
    · omega
    · exact add_lt [] s _ e he
  | a :: r, [], c => by
    rw [add]
    intro e he
    rcases List.mem_cons.1 he with rfl | he
    · omega
    · exact add_lt r [] _ e he
  | a :: r, b :: s, c => by
    rw [add]
    intro e he
    rcases List.mem_cons.1 he with rfl | he
    · omega
    · exact add_lt r s _ e he
theorem add_length : ∀ (a b : List Nat) (c : Nat), (∀ d ∈ a, d < 10) → (∀ d ∈ b, d < 10) → c ≤ 1 → (add a b c).length ≤ a.length + b.length + 1
  | [], [], c, _, _, hc => by rw [add]; have := @dg_length_le c 1 (by omega); simp; omega
  | [], b :: s, c, ha, hb, hc => by
    have h1 := hb b (by simp)
    have := add_length [] s ((0 + b + c) / 10) ha (fun y hy => hb y (List.mem_cons_of_mem _ hy)) (by omega)
    simp only [add, List.length_cons] at *
    omega
  | a :: r, [], c, ha, hb, hc => by
    have h1 := ha a (by simp)
    have := add_length r [] ((a + 0 + c) / 10) (fun y hy => ha y (List.mem_cons_of_mem _ hy)) hb (by omega)
    simp only [add, List.length_cons] at *
    omega
  | a :: r, b :: s, c, ha, hb, hc => by
    have h1 := ha a (by simp)
    have h2 := hb b (by simp)
    have := add_length r s ((a + b + c) / 10) (fun y hy => ha y (List.mem_cons_of_mem _ hy)) (fun y hy => hb y (List.mem_cons_of_mem _ hy)) (by omega)
    simp only [add, List.length_cons] at *
    omega
theorem add_step (a b : List Nat) (k c : Nat) (h : ¬ (a.length ≤ k ∧ b.length ≤ k ∧ c = 0)) :
    add (a.drop k) (b.drop k) c = ((a.getD k 0 + b.getD k 0 + c) % 10) :: add (a.drop (k + 1)) (b.drop (k + 1)) ((a.getD k 0 + b.getD k 0 + c) / 10) := by
  rcases Nat.lt_or_ge k a.length with z | z <;> rcases Nat.lt_or_ge k b.length with y | y
  · rw [List.drop_eq_getElem_cons z, List.drop_eq_getElem_cons y, add]
    simp [List.getD, z, y]
  · rw [List.drop_eq_getElem_cons z, List.drop_eq_nil_of_le y, List.drop_eq_nil_of_le (show b.length ≤ k + 1 by omega), add, show b.getD k 0 = 0 from by simp [List.getD, y]]
    simp [List.getD, z]
  · rw [List.drop_eq_getElem_cons y, List.drop_eq_nil_of_le z, List.drop_eq_nil_of_le (show a.length ≤ k + 1 by omega), add, show a.getD k 0 = 0 from by simp [List.getD, z]]
    simp [List.getD, y]
  · have hc : c ≠ 0 := fun e => h ⟨z, y, e⟩
    rw [List.drop_eq_nil_of_le z, List.drop_eq_nil_of_le y, List.drop_eq_nil_of_le (show a.length ≤ k + 1 by omega), List.drop_eq_nil_of_le (show b.length ≤ k + 1 by omega), add, add, dg_pos hc, show a.getD k 0 = 0 from by simp [List.getD, z], show b.getD k 0 = 0 from by simp [List.getD, y]]
    simp
theorem add_done (a b : List Nat) (k c : Nat) (h : a.length ≤ k ∧ b.length ≤ k ∧ c = 0) : add (a.drop k) (b.drop k) c = [] := by
  rw [List.drop_eq_nil_of_le h.1, List.drop_eq_nil_of_le h.2.1, h.2.2, add, dg_zero]

theorem dg_bounds (n : Nat) : n < 10 ^ (dg n).length ∧ (n ≠ 0 → 10 ^ ((dg n).length - 1) ≤ n) := by
  induction n using Nat.strongRecOn with
  | _ n ih =>
    by_cases h : n = 0
    · subst h; rw [dg_zero]; simp
    · obtain ⟨i1, i2⟩ := ih (n / 10) (by omega)
      rw [dg_pos h, List.length_cons, Nat.pow_succ]
      refine ⟨by omega, fun _ => ?_⟩
      rw [Nat.add_sub_cancel]
      by_cases h2 : n / 10 = 0
      · rw [h2, dg_zero]; simp; omega
      · have i3 := i2 h2
        have : (dg (n / 10)).length ≠ 0 := fun e => by
          have := List.eq_nil_of_length_eq_zero e
          rw [dg_pos h2] at this
          cases this
        obtain ⟨j, hj⟩ : ∃ j, (dg (n / 10)).length = j + 1 := ⟨(dg (n / 10)).length - 1, by omega⟩
        rw [hj] at i3 ⊢
        rw [Nat.add_sub_cancel] at i3
        rw [Nat.pow_succ]
        omega
theorem lt_of_length {m n : Nat} (h : (dg m).length < (dg n).length) : m < n := by
  have hn : n ≠ 0 := fun e => by subst e; rw [dg_zero] at h; cases h
  have a := (dg_bounds m).1
  have b := (dg_bounds n).2 hn
  have c : (10 : Nat) ^ (dg m).length ≤ 10 ^ ((dg n).length - 1) := Nat.pow_le_pow_right (by decide) (by omega)
  omega
theorem val_lt : ∀ (l : List Nat), (∀ d ∈ l, d < 10) → val l < 10 ^ l.length
  | [], _ => by simp [val]
  | d :: r, h => by
    have h1 := h d (by simp)
    have := val_lt r (fun y hy => h y (List.mem_cons_of_mem _ hy))
    rw [val, List.length_cons, Nat.pow_succ]
    omega
/-- The highest digit in which two rows of digits part decides. -/
theorem lt_at {a b : List Nat} (ha : ∀ d ∈ a, d < 10) (j : Nat) (h1 : j < a.length) (h2 : j < b.length) (e : a.drop (j + 1) = b.drop (j + 1)) (l : a.getD j 0 < b.getD j 0) : val a < val b := by
  have ea : val a = val (a.take j) + 10 ^ j * (a.getD j 0 + 10 * val (a.drop (j + 1))) := by
    conv => lhs; rw [← List.take_append_drop j a]
    rw [val_append, List.length_take, Nat.min_eq_left (by omega), List.drop_eq_getElem_cons h1, val]
    simp [List.getD, h1]
  have eb : val b = val (b.take j) + 10 ^ j * (b.getD j 0 + 10 * val (b.drop (j + 1))) := by
    conv => lhs; rw [← List.take_append_drop j b]
    rw [val_append, List.length_take, Nat.min_eq_left (by omega), List.drop_eq_getElem_cons h2, val]
    simp [List.getD, h2]
  have t := val_lt (a.take j) (fun d hd => ha d (List.mem_of_mem_take hd))
  rw [List.length_take, Nat.min_eq_left (by omega)] at t
  rw [ea, eb, e]
  have m := Nat.mul_le_mul_left (10 ^ j) (show a.getD j 0 + 10 * val (b.drop (j + 1)) + 1 ≤ b.getD j 0 + 10 * val (b.drop (j + 1)) by omega)
  rw [Nat.mul_add, Nat.mul_one] at m
  omega
end Go.Proofs.YtkkddflclakphaaDoor.Dg

/-
  How many digits a number has (digits, Digits of package wide), each as a contract of its call.
-/
namespace Go.Proofs.YtkkddflclakphaaDoor
open Go.RowKit

/-- How many digits a number has. -/
def nd (n : Nat) : Nat := (Dg.dg n).length
theorem nd_zero : nd 0 = 0 := by unfold nd; rw [Dg.dg_zero]; rfl
theorem nd_pos {n : Nat} (h : n ≠ 0) : nd n = nd (n / 10) + 1 := by unfold nd; rw [Dg.dg_pos h]; rfl
theorem nd_le {n k : Nat} (h : n < 10 ^ k) : nd n ≤ k := Dg.dg_length_le h
theorem nd_lt (n : Nat) : n < 10 ^ nd n := (Dg.dg_bounds n).1
theorem nd_ge {n k : Nat} (h : 10 ^ k ≤ n) : k + 1 ≤ nd n := by
  have := nd_lt n
  rcases Nat.lt_or_ge k (nd n) with z | z
  · exact z
  · exfalso
    have := Nat.pow_le_pow_right (show 0 < 10 by decide) z
    omega
theorem nd_of {n k : Nat} (h1 : 10 ^ k ≤ n) (h2 : n < 10 ^ (k + 1)) : nd n = k + 1 := Nat.le_antisymm (nd_le h2) (nd_ge h1)
theorem nd_min {n : Nat} (h : n ≠ 0) : 10 ^ (nd n - 1) ≤ n := by
  induction n using Nat.strongRecOn with
  | _ n ih =>
    rw [nd_pos h, Nat.add_sub_cancel]
    by_cases z : n / 10 = 0
    · rw [z, nd_zero]; show 1 ≤ n; omega
    · have := ih (n / 10) (by omega) z
      have p : nd (n / 10) = nd (n / 10) - 1 + 1 := by rw [nd_pos z]; omega
      rw [p, Nat.pow_succ]
      omega
theorem nd_div {n : Nat} (k : Nat) (h : 10 ^ k ≤ n) : nd n = k + nd (n / 10 ^ k) := by
  induction k generalizing n with
  | zero => simp
  | succ k ih =>
    have p : 0 < 10 ^ k := Nat.pow_pos (by decide)
    rw [Nat.pow_succ] at h
    have h0 : n ≠ 0 := by omega
    rw [nd_pos h0, ih (n := n / 10) (by omega), Nat.div_div_eq_div_mul, Nat.pow_succ, Nat.mul_comm 10]
    omega

theorem log_table : ∀ b : Fin 129, 2 ^ b.val ≤ 10 ^ (b.val * 1233 / 4096 + 1) ∧ (0 < b.val → 0 < b.val * 1233 / 4096 → 10 ^ (b.val * 1233 / 4096 - 1) ≤ 2 ^ (b.val - 1)) := by decide +kernel

theorem bitLen_bounds {x : Nat} (h0 : 0 < x) (h1 : x < 18446744073709551616) : 1 ≤ Lib.bitLen x ∧ Lib.bitLen x ≤ 64 ∧ 2 ^ (Lib.bitLen x - 1) ≤ x ∧ x < 2 ^ Lib.bitLen x := by
  obtain ⟨a, b, c⟩ := Lib.bitLenAux_bounds 64 x (by simpa using h1) (by omega)
  have d : Lib.bitLen x ≤ 64 := Lib.bitLen_le x 64 (Nat.le_refl _) (by simpa using h1)
  have e : Lib.bitLenAux 64 x = Lib.bitLen x := rfl
  rw [e] at a b c
  exact ⟨a, d, b, c⟩

theorem bl2_bounds {h l : Nat} (ha : WW h l) (h0 : nv h l ≠ 0) : 1 ≤ bl2 h l ∧ bl2 h l ≤ 128 ∧ 2 ^ (bl2 h l - 1) ≤ nv h l ∧ nv h l < 2 ^ bl2 h l := by
  obtain ⟨a1, a2⟩ := ha
  unfold bl2
  split
  · rename_i z
    subst z
    have e : nv 0 l = l := by simp [nv]
    rw [e] at h0 ⊢
    obtain ⟨b1, b2, b3, b4⟩ := bitLen_bounds (by omega) a2
    exact ⟨b1, by omega, b3, b4⟩
  · rename_i z
    obtain ⟨b1, b2, b3, b4⟩ := bitLen_bounds (by omega) a1
    refine ⟨by omega, by omega, ?_, ?_⟩
    · rw [show 64 + Lib.bitLen h - 1 = (Lib.bitLen h - 1) + 64 by omega, Nat.pow_add]
      have := Nat.mul_le_mul_right (2 ^ 64) b3
      unfold nv
      exact Nat.le_trans this (Nat.le_add_right _ _)
    · rw [Nat.add_comm, Nat.pow_add]
      have := Nat.mul_le_mul_right (2 ^ 64) (Nat.succ_le_of_lt b4)
      rw [Nat.succ_mul] at this
      have e : (2 : Nat) ^ 64 = 18446744073709551616 := rfl
      rw [e] at this ⊢
      unfold nv
      omega

theorem bl2_zero {h l : Nat} (h0 : nv h l = 0) : bl2 h l = 0 := by
  unfold nv at h0
  have e1 : h = 0 := by omega
  have e2 : l = 0 := by omega
  subst e1 e2
  decide +kernel

theorem digits_right {h l : Nat} (ha : WW h l) : bl2 h l * 1233 / 4096 ≤ 38 ∧ bl2 h l ≤ 128 ∧
    (10 ^ (bl2 h l * 1233 / 4096) ≤ nv h l → nd (nv h l) = bl2 h l * 1233 / 4096 + 1) ∧ (nv h l < 10 ^ (bl2 h l * 1233 / 4096) → nd (nv h l) = bl2 h l * 1233 / 4096) := by
  by_cases z : nv h l = 0
  · rw [bl2_zero z, z]
    refine ⟨by decide, by decide, fun h => ?_, fun _ => nd_zero⟩
    exact absurd h (by decide)
  · obtain ⟨b1, b2, b3, b4⟩ := bl2_bounds ha z
    obtain ⟨t1, t2⟩ := log_table ⟨bl2 h l, by omega⟩
    simp only at t1 t2
    generalize bl2 h l = b at *
    generalize nv h l = n at *
    refine ⟨by omega, b2, fun k => nd_of k (Nat.lt_of_lt_of_le b4 t1), fun k => ?_⟩
    rcases Nat.eq_zero_or_pos (b * 1233 / 4096) with y | y
    · rw [y] at k; exfalso; apply z; simpa using k
    · have := t2 (by omega) y
      have q := nd_of (Nat.le_trans this b3) (by rw [Nat.sub_add_cancel y]; exact k)
      rw [Nat.sub_add_cancel y] at q
      exact q

set_option maxHeartbeats 1000000 in
theorem digits_any (h l : Nat) (ha : WW h l) (w : World) (ht : Tab w) : Calls Tryd.prog 93 #[U h l] w (RetI (nd (nv h l) : Int) w) := by
  obtain ⟨k38, b128, d1, d2⟩ := digits_right ha
  have HB := Lib.hid (bitLength_any h l ha)
  have HT := Lib.hid ht
  have HA := Lib.hid ha
  have D1 := Lib.hid d1
  have D2 := Lib.hid d2
  generalize bl2 h l = b at *
  obtain ⟨k, hk⟩ : ∃ k, k = b * 1233 / 4096 := ⟨_, rfl⟩
  rw [← hk] at k38 D1 D2
  have e1 : IntKind.i64.wrap ((b : Int) * 1233) = (b : Int) * 1233 := by rw [IntKind.wrap_i64]; omega
  have e2 : (b : Int) * 1233 / 4096 = (k : Int) := by omega
  clear ht ha d1 d2 hk
  go_enter Tryd.func93, Tryd.ntmps93
  go_wp2_with fail
  refine (HB.out _).mono ?_
  rintro e w1 ⟨rfl, hb1⟩
  have B1 : Below w.heap.size w w1 := bstep (by go_grown) hb1
  have T1 := Lib.hid (HT.out.below B1)
  have G0 := Lib.hid ((by simp [Holds2, go_sem] : Holds2 _ w.heap.size h l).below hb1)
  clear hb1 HT HB
  go_wp2_with fail
  refine (ten_yes k k38 _ T1.out).mono ?_
  rintro e w2 ⟨ph, pl, P, rfl, hb2⟩
  have B2 : Below w.heap.size w w2 := bstep B1 hb2
  obtain ⟨a1, a2, a3, a4, a5⟩ := G0.out.below hb2
  have HP := Lib.hid P
  clear hb2 G0 T1 B1 P
  go_wp2_with fail
  refine (wcmp_any h l ph pl HA.out HP.out.1 _).mono ?_
  rintro e w3 ⟨rfl, hb3⟩
  have B3 : Below w.heap.size w w3 := bstep (B2.alloc B2.size _) hb3
  rw [HP.out.2]
  clear a1 a2 a3 a4 a5 hb3 B2
  rcases Nat.lt_or_ge (nv h l) (10 ^ k) with z | z
  · rw [cmpN_lt z]
    have E := Lib.hid (D2.out z)
    clear z
    go_wp2
    go_ret
    exact ⟨by rw [E.out]; rfl, B3⟩
  · have t : decide (0 ≤ cmpN (nv h l) (10 ^ k)) = true := by
      rcases cmpN_range (nv h l) (10 ^ k) with ⟨e, _⟩ | ⟨e, _⟩ | ⟨e, _⟩
      · omega
      · rw [e]; decide
      · rw [e]; decide
    have E := Lib.hid (D1.out z)
    generalize cmpN (nv h l) (10 ^ k) = cv at *
    clear z
    go_wp2
    go_ret
    exact ⟨by rw [E.out]; exact congrArg Ending.returned (int_eq (by omega)), B3⟩

theorem digits_round {N n k m r : Nat} (e : m + nd k = N) (h : n * 10000000000000000000 + r = k) (hr : r < 10000000000000000000) (hk : 340282366920938463463374607431768211456 ≤ k) : m + 19 + nd n = N ∧ n < k := by
  have q : k / 10 ^ 19 = n := by
    show k / 10000000000000000000 = n
    omega
  have := nd_div (n := k) 19 (show 10000000000000000000 ≤ k by omega)
  rw [q] at this
  omega

/-- Where the loop stands. -/
def DigRel (w : World) (N k : Nat) (n : Value) (W : World) : Prop :=
  ∃ h l h' l' m : Nat, n = .int .i64 (m : Int) ∧ k = nv2 h l h' l' ∧ WW h l ∧ WW h' l' ∧ m + nd (nv2 h l h' l') = N ∧ Tab W ∧ Holds2 W w.heap.size h l ∧ Holds2 W (w.heap.size + 1) h' l' ∧ Below w.heap.size w W

theorem nd_256 {h l h' l' : Nat} (h1 : WW h l) (h2 : WW h' l') : nd (nv2 h l h' l') ≤ 78 := by
  refine nd_le (Nat.lt_of_lt_of_le ?_ (show B128 * B128 ≤ 10 ^ 78 by decide +kernel))
  have x := nv_lt h1
  have y := nv_lt h2
  have z := Nat.mul_le_mul_right B128 (Nat.succ_le_of_lt x)
  rw [Nat.succ_mul] at z
  unfold nv2
  omega

set_option maxHeartbeats 1000000 in
theorem digitsTop_any (ah al bh bl : Nat) (ha : WW ah al) (hb : WW bh bl) (w : World) (ht : Tab w) : Calls Tryd.prog 70 #[U ah al, U bh bl] w (RetI (nd (nv2 ah al bh bl) : Int) w) := by
  have n78 := nd_256 ha hb
  have HT := Lib.hid ht
  have HA := Lib.hid ha
  have HBB := Lib.hid hb
  obtain ⟨N, hN⟩ : ∃ N, N = nd (nv2 ah al bh bl) := ⟨_, rfl⟩
  have HN := Lib.hid hN
  rw [← hN] at n78 ⊢
  clear ht ha hb hN
  go_enter Tryd.func70, Tryd.ntmps70
  go_wp2
  go_loopg [5] (nv2 ah al bh bl) (fun k n W => DigRel w N k n W)
  case atStart => exact ⟨ah, al, bh, bl, 0, rfl, rfl, HA.out, HBB.out, by rw [HN.out, Nat.zero_add], HT.out.below (by go_grown), by simp [Holds2, go_sem], by simp [Holds2, go_sem], by go_grown⟩
  case round =>
    clear HA HBB HN
    obtain ⟨h, l, h', l', m, rfl, hk, w1, w2, e1, T0, A1, A2, HB⟩ := hrel
    have W1 := Lib.hid w1
    have W2 := Lib.hid w2
    have E1 := Lib.hid e1
    have T0 := Lib.hid T0
    have HK := Lib.hid hk
    have m78 : m ≤ 78 := by omega
    clear w1 w2 e1 hk
    obtain ⟨a1, a2, a3, a4, a5⟩ := id A1
    by_cases z : nv h l = 0
    · go_wp2_with fail
      refine (zero_t z _).mono ?_
      rintro e v1 ⟨rfl, hb1⟩
      have B1 : Below w.heap.size w v1 := bstep HB hb1
      have T1 := Lib.hid (T0.out.below hb1)
      clear a1 a2 a3 a4 a5
      obtain ⟨b1, b2, b3, b4, b5⟩ := A2.below hb1
      have E2 := Lib.hid (show m + nd (nv h' l') = N by have := E1.out; unfold nv2 at this; rw [z, Nat.zero_mul, Nat.zero_add] at this; exact this)
      have d78 : nd (nv h' l') ≤ N := by have := E2.out; omega
      clear hb1 z HB A1 A2 T0
      go_wp2_with fail
      refine (digits_any h' l' W2.out _ T1.out).mono ?_
      rintro e v2 ⟨rfl, hb2⟩
      generalize nd (nv h' l') = d at *
      go_wp2
      go_ret
      exact ⟨congrArg Ending.returned (int_eq (by have := E2.out; omega)), bstep B1 hb2⟩
    · have c19 : wr.cell? ⟨0, 19, none⟩ = some (.int .u64 10000000000000000000) := T0.out.2 19 (by decide)
      have big : 340282366920938463463374607431768211456 ≤ gk := by
        rw [HK.out]; unfold nv2 B128; omega
      have BIG := Lib.hid big
      clear big
      go_wp2_with fail
      refine (zero_f z _).mono ?_
      rintro e v1 ⟨rfl, hb1⟩
      have B1 : Below w.heap.size w v1 := bstep HB hb1
      have T1 := Lib.hid (T0.out.below hb1)
      have C1 := Lib.hid (A1.below hb1)
      have C2 := Lib.hid (A2.below hb1)
      clear a1 a2 a3 a4 a5 A1 A2 HB c19 hb1 z T0
      have c19 : v1.cell? ⟨0, 19, none⟩ = some (.int .u64 10000000000000000000) := T1.out.2 19 (by decide)
      have s0 : 0 < v1.heap.size := T1.out.1
      obtain ⟨a1, a2, a3, a4, a5⟩ := C1.out
      obtain ⟨b1, b2, b3, b4, b5⟩ := C2.out
      go_wp2_with fail
      refine (divWord_any h l h' l' 10000000000000000000 W1.out W2.out (by decide) (by decide) _).mono ?_
      rintro e v2 ⟨gh, gl, gh', gl', r, F, rfl, hb2⟩
      have FF := Lib.hid F
      have E2 := Lib.hid (digits_round E1.out (show nv2 gh gl gh' gl' * 10000000000000000000 + r = nv2 h l h' l' from F.2.2.2) F.2.2.1 (by have := BIG.out; rw [HK.out] at this; exact this))
      have B2 : Below w.heap.size w v2 := bstep B1 hb2
      have T2 := Lib.hid (T1.out.below hb2)
      have G1 := Lib.hid (C1.out.below hb2)
      have G2 := Lib.hid (C2.out.below hb2)
      clear a1 a2 a3 a4 a5 b1 b2 b3 b4 b5 hb2 F c19 s0 B1 T1 C1 C2 E1
      obtain ⟨a1, a2, a3, a4, a5⟩ := G1.out
      obtain ⟨b1, b2, b3, b4, b5⟩ := G2.out
      go_wp2
      go_roundg (nv2 gh gl gh' gl')
      case measure => have := E2.out.2; rw [HK.out]; exact this
      case rel =>
        refine ⟨gh, gl, gh', gl', m + 19, by go_num, rfl, FF.out.1, FF.out.2.1, E2.out.1, ?_, ?_, ?_, ?_⟩
        · exact HT.out.below (by clear a1 a2 a3 a4 b1 b2 b3 b4; go_grown)
        · exact Holds2.far (Holds2.far (Holds2.put G1.out) (by show _ ≠ _; dsimp only; omega) _) (by show _ ≠ _; dsimp only; omega) _
        · exact Holds2.put (Holds2.far (Holds2.far G2.out (by show _ ≠ _; dsimp only; omega) _) (by show _ ≠ _; dsimp only; omega) _)
        · clear a1 a2 a3 a4 b1 b2 b3 b4
          go_grown
end Go.Proofs.YtkkddflclakphaaDoor
