/-
  Decimal numbers by plain arithmetic: how a size is cut and fitted, sums, the order; no program is spoken of.
-/
import Derived.Test.YtkkddflclakphaaDoorE2
namespace Go.Proofs.YtkkddflclakphaaDoor

/-- The first digit that is dropped of n, and whether there is more. -/
def dropD (N n : Nat) : Nat := if n = 0 then 0 else N / 10 ^ (n - 1) % 10
def dropM (N n : Nat) (more : Bool) : Bool := more || decide (N % 10 ^ (n - 1) ≠ 0)
/-- A size without its last n digits, rounded. -/
def upN (m : Nat) (neg : Bool) (N n : Nat) (more : Bool) : Bool := goUp m neg (decide (N / 10 ^ min n 78 % 2 = 1)) (dropD N (min n 78)) (dropM N (min n 78) more)
def cutN (m : Nat) (neg : Bool) (N n : Nat) (more : Bool) : Nat := N / 10 ^ min n 78 + (if upN m neg N n more then 1 else 0)
/-- How many digits there is no room for. -/
def surp (N : Nat) (x : Int) : Nat := max (nd N - 34) (-6176 - x).toNat
/-- What a size becomes when it is fitted. -/
def fitE (neg : Bool) (c : Nat) (e : Int) : Option (Bool × Nat × Int) :=
  if c = 0 then some (false, 0, min e 6111)
  else if e ≤ 6111 then some (neg, c, e)
  else if 6111 < e - ((34 - nd c : Nat) : Int) then none else some (neg, c * 10 ^ (34 - nd c), e - ((34 - nd c : Nat) : Int))
def fitT (neg : Bool) (c : Nat) (e : Int) : Option (Bool × Nat × Int) := if c = 10 ^ 34 then fitE neg (10 ^ 33) (e + 1) else fitE neg c e
def fitF (m : Nat) (neg : Bool) (N : Nat) (more : Bool) (x : Int) : Option (Bool × Nat × Int) :=
  fitT neg (cutN m neg N (surp N (min x 6145)) more) (min x 6145 + ((surp N (min x 6145) : Nat) : Int))

theorem p10 (k : Nat) : 0 < 10 ^ k := Nat.pow_pos (by decide)
theorem p10_mono {a b : Nat} (h : a ≤ b) : 10 ^ a ≤ 10 ^ b := Nat.pow_le_pow_right (by decide) h

theorem goUp_none (m : Nat) (b o : Bool) : goUp m b o 0 false = false := by unfold goUp; rfl
theorem upN_le (m : Nat) (neg : Bool) (N n : Nat) (more : Bool) : N / 10 ^ min n 78 ≤ cutN m neg N n more ∧ cutN m neg N n more ≤ N / 10 ^ min n 78 + 1 := by
  unfold cutN
  split <;> omega
theorem cutN_zero (m : Nat) (neg : Bool) (N : Nat) : cutN m neg N 0 false = N := by
  unfold cutN upN dropD dropM
  simp only [Nat.zero_min, Nat.pow_zero, Nat.div_one, Nat.mod_one, if_true, Nat.zero_sub]
  rw [show (false || decide ((0 : Nat) ≠ 0)) = false from rfl, goUp_none]
  simp

theorem B256_lt : B128 * B128 < 10 ^ 78 := by unfold B128; decide
theorem div_min {N n : Nat} (h : N < B128 * B128) : N / 10 ^ min n 78 = N / 10 ^ n := by
  rcases Nat.le_total n 78 with z | z
  · rw [Nat.min_eq_left z]
  · rw [Nat.min_eq_right z, Nat.div_eq_of_lt (Nat.lt_trans h B256_lt), Nat.div_eq_of_lt (Nat.lt_of_lt_of_le (Nat.lt_trans h B256_lt) (p10_mono z))]

theorem div_surp {N : Nat} (x : Int) : N / 10 ^ surp N x < 10 ^ 34 := by
  have h := nd_lt N
  rw [Nat.div_lt_iff_lt_mul (p10 _), ← Nat.pow_add]
  refine Nat.lt_of_lt_of_le h (p10_mono ?_)
  unfold surp
  omega
theorem cut_le {m : Nat} {neg : Bool} {N : Nat} {more : Bool} {x : Int} (h : N < B128 * B128) : cutN m neg N (surp N x) more ≤ 10 ^ 34 := by
  have a := (upN_le m neg N (surp N x) more).2
  have b := div_surp (N := N) x
  rw [div_min h] at a
  omega
theorem surp_low {N : Nat} {x : Int} : -6176 ≤ x + ((surp N x : Nat) : Int) := by unfold surp; omega

/-- A number may be: what a coefficient and an exponent may be. -/
def NumD (c : Nat) (x : Int) : Prop := c < 10 ^ 34 ∧ -6176 ≤ x ∧ x ≤ 6111
theorem mayD_of {neg : Bool} {c : Nat} {x : Int} (h : NumD c x) (hz : c = 0 → neg = false) : mayD neg c x = true := by
  obtain ⟨a, b, d⟩ := h
  unfold mayD
  rw [decide_eq_true a, decide_eq_true b, decide_eq_true d]
  by_cases z : c = 0
  · rw [hz z]; rfl
  · rw [decide_eq_false z, Bool.and_false]; rfl

/-- The size of a number, as a whole number: in steps of the least exponent. -/
def szN (c : Nat) (x : Int) : Nat := c * 10 ^ (x + 6176).toNat
theorem szN_shift {c k : Nat} {x : Int} (h : -6176 ≤ x - (k : Int)) : szN (c * 10 ^ k) (x - (k : Int)) = szN c x := by
  unfold szN
  rw [Nat.mul_assoc, ← Nat.pow_add]
  congr 2
  omega

theorem fitE_some {neg s : Bool} {c c' : Nat} {e e' : Int} (h : fitE neg c e = some (s, c', e')) (hc : c < 10 ^ 34) (he : -6176 ≤ e) :
    (c = 0 ∧ s = false ∧ c' = 0 ∧ e' = min e 6111) ∨ (c ≠ 0 ∧ s = neg ∧ c' ≠ 0 ∧ NumD c' e' ∧ szN c' e' = szN c e ∧ e ≤ 6145) := by
  unfold fitE at h
  by_cases z : c = 0
  · rw [if_pos z] at h
    simp only [Option.some.injEq, Prod.mk.injEq] at h
    exact .inl ⟨z, h.1.symm, h.2.1.symm, h.2.2.symm⟩
  · rw [if_neg z] at h
    right
    by_cases y : e ≤ 6111
    · rw [if_pos y] at h
      simp only [Option.some.injEq, Prod.mk.injEq] at h
      obtain ⟨rfl, rfl, rfl⟩ := h
      exact ⟨z, rfl, z, ⟨hc, he, y⟩, rfl, by omega⟩
    · rw [if_neg y] at h
      split at h
      · exact absurd h (by simp)
      · rename_i q
        simp only [Option.some.injEq, Prod.mk.injEq] at h
        obtain ⟨rfl, rfl, rfl⟩ := h
        have nz : nd c ≠ 0 := by rw [nd_pos z]; omega
        have k34 : 34 - nd c ≤ 34 := Nat.sub_le _ _
        have n34 : nd c ≤ 34 := nd_le hc
        refine ⟨z, rfl, Nat.mul_ne_zero z (Nat.ne_of_gt (p10 _)), ⟨?_, by omega, by omega⟩, szN_shift (by omega), by omega⟩
        have := Nat.mul_lt_mul_of_pos_right (nd_lt c) (p10 (34 - nd c))
        rw [← Nat.pow_add, show nd c + (34 - nd c) = 34 by omega] at this
        exact this

theorem fitT_some {neg s : Bool} {c c' : Nat} {e e' : Int} (h : fitT neg c e = some (s, c', e')) (hc : c ≤ 10 ^ 34) (he : -6176 ≤ e) :
    (c = 0 ∧ s = false ∧ c' = 0 ∧ e' = min e 6111) ∨ (c ≠ 0 ∧ s = neg ∧ c' ≠ 0 ∧ NumD c' e' ∧ szN c' e' = szN c e ∧ e ≤ 6145) := by
  unfold fitT at h
  by_cases z : c = 10 ^ 34
  · rw [if_pos z] at h
    rcases fitE_some h (by decide) (by omega) with ⟨a, _⟩ | ⟨a1, a2, a3, a4, a5, a6⟩
    · exact absurd a (by decide)
    · refine .inr ⟨by rw [z]; decide, a2, a3, a4, ?_, by omega⟩
      rw [a5, z]
      unfold szN
      rw [show (e + 1 + 6176).toNat = (e + 6176).toNat + 1 by omega]
      generalize (e + 6176).toNat = k
      rw [← Nat.pow_add, ← Nat.pow_add, show 33 + (k + 1) = 34 + k by omega]
  · rw [if_neg z] at h
    exact fitE_some h (by omega) he

/-- What is fitted: 0, or a number of the cut size. -/
theorem fitF_some {m : Nat} {neg more s : Bool} {N c' : Nat} {x e' : Int} (h : fitF m neg N more x = some (s, c', e')) (hN : N < B128 * B128) :
    (cutN m neg N (surp N x) more = 0 ∧ s = false ∧ c' = 0 ∧ NumD c' e') ∨
    (cutN m neg N (surp N x) more ≠ 0 ∧ s = neg ∧ c' ≠ 0 ∧ NumD c' e' ∧ x ≤ 6145 ∧ szN c' e' = szN (cutN m neg N (surp N x) more) (x + ((surp N x : Nat) : Int))) := by
  have es : surp N (min x 6145) = surp N x := by unfold surp; omega
  unfold fitF at h
  rw [es] at h
  have lo := surp_low (N := N) (x := min x 6145)
  rw [es] at lo
  rcases fitT_some h (cut_le hN) lo with ⟨a, b, d, e⟩ | ⟨a, b, d, e, f, g⟩
  · refine .inl ⟨a, b, d, ?_⟩
    subst d
    exact ⟨by decide, by omega, by omega⟩
  · have hx : x ≤ 6145 ∨ 6145 < x := by omega
    rcases hx with hx | hx
    · rw [Int.min_eq_left hx] at f
      exact .inr ⟨a, b, d, e, hx, f⟩
    · exfalso
      -- from there on all but 0 is too great
      rw [Int.min_eq_right (by omega)] at f g
      have g0 : surp N x = 0 := by omega
      rw [g0] at f
      have e1 := e.1
      have e3 := e.2.2
      obtain ⟨K, hK⟩ : ∃ K : Nat, K = 34 + 12287 := ⟨_, rfl⟩
      have l1 : szN c' e' < 10 ^ K := by
        unfold szN
        have := Nat.mul_lt_mul_of_pos_right e1 (p10 (e' + 6176).toNat)
        rw [← Nat.pow_add] at this
        exact Nat.lt_of_lt_of_le this (p10_mono (by omega))
      have l2 : 10 ^ K ≤ szN (cutN m neg N (surp N x) more) (6145 + ((0 : Nat) : Int)) := by
        unfold szN
        exact Nat.le_trans (by rw [Nat.one_mul]; exact p10_mono (by omega)) (Nat.mul_le_mul_right _ (Nat.one_le_iff_ne_zero.mpr a))
      rw [g0] at l2
      rw [f] at l1
      exact absurd l2 (Nat.not_le.mpr l1)

/-- What may be a number is fitted to itself. -/
theorem fitF_self {m : Nat} {neg : Bool} {c : Nat} {x : Int} (h : NumD c x) (hz : c = 0 → neg = false) : fitF m neg c false x = some (neg, c, x) := by
  obtain ⟨a, b, d⟩ := h
  have n34 : nd c ≤ 34 := nd_le a
  have es : surp c x = 0 := by unfold surp; omega
  unfold fitF
  rw [Int.min_eq_left (by omega), es, cutN_zero]
  unfold fitT fitE
  rw [if_neg (by omega)]
  by_cases z : c = 0
  · rw [if_pos z, hz z, z, Int.min_eq_left (by omega)]; simp
  · rw [if_neg z, if_pos (by omega)]; simp
theorem fitF_may {m : Nat} {neg more s : Bool} {N c' : Nat} {x e' : Int} (h : fitF m neg N more x = some (s, c', e')) (hN : N < B128 * B128) : mayD s c' e' = true ∧ NumD c' e' ∧ (c' = 0 → s = false) := by
  rcases fitF_some h hN with ⟨_, b, d, e⟩ | ⟨_, _, d, e, _⟩
  · exact ⟨mayD_of e (fun _ => b), e, fun _ => b⟩
  · exact ⟨mayD_of e (fun z => absurd z d), e, fun z => absurd z d⟩

/-- A number with its sign, as a whole number. -/
def vlZ (neg : Bool) (c : Nat) (x : Int) : Int := if neg then -(szN c x : Int) else (szN c x : Int)
/-- The order of numbers. -/
def cmpZ (a b : Int) : Int := if a < b then -1 else if b < a then 1 else 0
end Go.Proofs.YtkkddflclakphaaDoor
