/-
  Cmp of package dec, by plain arithmetic: the order of the values.
-/
import Derived.Test.YtkkddflclakphaaDoorPd
namespace Go.Proofs.YtkkddflclakphaaDoor

theorem cmpN_sz (a b : Nat) (x : Int) : cmpN (szN a x) (szN b x) = cmpN a b := by
  rcases Nat.lt_trichotomy a b with h | h | h
  · rw [cmpN_lt h, cmpN_lt (szN_lt.2 h)]
  · rw [h, cmpN_eq, cmpN_eq]
  · rw [cmpN_gt h, cmpN_gt (szN_lt.2 h)]
theorem cmpN_swap (a b : Nat) : cmpN a b = -cmpN b a := by
  rcases Nat.lt_trichotomy a b with h | h | h
  · rw [cmpN_lt h, cmpN_gt h]
  · rw [h, cmpN_eq]; rfl
  · rw [cmpN_gt h, cmpN_lt h]; rfl
theorem csz_size {ca cb : Nat} {ea eb : Int} (h2 : NumD cb eb) (hz : ca ≠ 0) (h : eb ≤ ea) : csz ca ea cb eb = cmpN (szN ca ea) (szN cb eb) := by
  rw [szN_down (x := eb) (y := ea) h2.2.1 h, cmpN_sz]
  unfold csz
  split
  · rename_i z
    have a : 10 ^ 39 ≤ 10 ^ (ea - eb).toNat := p10_mono (by omega)
    have b : 10 ^ (ea - eb).toNat ≤ ca * 10 ^ (ea - eb).toNat := Nat.le_mul_of_pos_left _ (Nat.pos_of_ne_zero hz)
    have c := h2.1
    have d : (10 : Nat) ^ 34 ≤ 10 ^ 39 := by decide
    rw [cmpN_gt (by omega)]
  · rfl
theorem csz2_size {ca cb : Nat} {ea eb : Int} (h1 : NumD ca ea) (h2 : NumD cb eb) (za : ca ≠ 0) (zb : cb ≠ 0) : csz2 ca ea cb eb = cmpN (szN ca ea) (szN cb eb) := by
  unfold csz2
  split
  · rw [csz_size h1 zb (by omega), ← cmpN_swap]
  · exact csz_size h2 za (by omega)
theorem szN_pos {c : Nat} (x : Int) (h : c ≠ 0) : 0 < szN c x := Nat.mul_pos (Nat.pos_of_ne_zero h) (p10 _)
theorem cmpN_Z (a b : Nat) : cmpN a b = cmpZ (a : Int) (b : Int) := by unfold cmpN cmpZ; split <;> split <;> (try split) <;> (try split) <;> omega
theorem sgn_val (n : Bool) (c : Nat) (x : Int) : (c = 0 ∧ sgn n c = 0 ∧ vlZ n c x = 0) ∨ (c ≠ 0 ∧ n = false ∧ sgn n c = 1 ∧ vlZ n c x = (szN c x : Int)) ∨ (c ≠ 0 ∧ n = true ∧ sgn n c = -1 ∧ vlZ n c x = -(szN c x : Int)) := by
  by_cases z : c = 0
  · left
    subst z
    refine ⟨rfl, by unfold sgn; rw [if_pos rfl], ?_⟩
    unfold vlZ
    rw [szN_zero]
    cases n <;> rfl
  · right
    cases n
    · exact .inl ⟨z, rfl, by unfold sgn; rw [if_neg z]; rfl, rfl⟩
    · exact .inr ⟨z, rfl, by unfold sgn; rw [if_neg z]; rfl, rfl⟩
theorem cz_lt {a b : Int} (h : a < b) : cmpZ a b = -1 := by unfold cmpZ; rw [if_pos h]
theorem cz_gt {a b : Int} (h : b < a) : cmpZ a b = 1 := by unfold cmpZ; rw [if_neg (by omega), if_pos h]
/-- Cmp is the order of the values. -/
theorem cmpD_val {na nb : Bool} {ca cb : Nat} {ea eb : Int} (h1 : NumD ca ea) (h2 : NumD cb eb) : cmpD na ca ea nb cb eb = cmpZ (vlZ na ca ea) (vlZ nb cb eb) := by
  unfold cmpD
  rcases sgn_val na ca ea with ⟨a1, a2, a3⟩ | ⟨a0, a1, a2, a3⟩ | ⟨a0, a1, a2, a3⟩ <;> rcases sgn_val nb cb eb with ⟨b1, b2, b3⟩ | ⟨b0, b1, b2, b3⟩ | ⟨b0, b1, b2, b3⟩
  · rw [a2, b2, a3, b3, if_pos rfl, Int.zero_mul]; decide
  · have := szN_pos eb b0
    rw [a2, b2, a3, b3, if_neg (by decide)]
    rw [cz_lt (by omega)]; decide
  · have := szN_pos eb b0
    rw [a2, b2, a3, b3, if_neg (by decide)]
    rw [cz_gt (by omega)]; decide
  · have := szN_pos ea a0
    rw [a2, b2, a3, b3, if_neg (by decide)]
    rw [cz_gt (by omega)]; decide
  · rw [a2, b2, a3, b3, if_pos rfl, csz2_size h1 h2 a0 b0, Int.one_mul, cmpN_Z]
  · have := szN_pos ea a0
    have := szN_pos eb b0
    rw [a2, b2, a3, b3, if_neg (by decide)]
    rw [cz_gt (by omega)]; decide
  · have := szN_pos ea a0
    rw [a2, b2, a3, b3, if_neg (by decide)]
    rw [cz_lt (by omega)]; decide
  · have := szN_pos ea a0
    have := szN_pos eb b0
    rw [a2, b2, a3, b3, if_neg (by decide)]
    rw [cz_lt (by omega)]; decide
  · rw [a2, b2, a3, b3, if_pos rfl, csz2_size h1 h2 a0 b0, cmpZ_turn, cmpN_Z]
    omega

/-- DecFit's last part: by Floor, Ceiling and HalfEven what is fitted lies in order, and is one of both. -/
theorem fit_three {neg more : Bool} {N : Nat} {x : Int} {s1 s2 s3 : Bool} {c1 c2 c3 : Nat} {e1 e2 e3 : Int} (hN : N < B128 * B128)
    (f1 : fitF 6 neg N more x = some (s1, c1, e1)) (f2 : fitF 7 neg N more x = some (s2, c2, e2)) (f3 : fitF 1 neg N more x = some (s3, c3, e3)) :
    vlZ s1 c1 e1 ≤ vlZ s2 c2 e2 ∧ (vlZ s3 c3 e3 = vlZ s1 c1 e1 ∨ vlZ s3 c3 e3 = vlZ s2 c2 e2) := by
  rw [fit_value f1 hN, fit_value f2 hN, fit_value f3 hN]
  have u : ∀ m, cutN m neg N (surp N x) more = N / 10 ^ min (surp N x) 78 + (if upN m neg N (surp N x) more then 1 else 0) := fun m => rfl
  rw [u, u, u]
  have dn : (decide (dropD N (min (surp N x) 78) = 0) && !dropM N (min (surp N x) 78) more) = true → ∀ m, upN m neg N (surp N x) more = false := by
    intro h m
    unfold upN goUp
    rw [if_pos h]
  have up6 : (decide (dropD N (min (surp N x) 78) = 0) && !dropM N (min (surp N x) 78) more) = false → upN 6 neg N (surp N x) more = neg ∧ upN 7 neg N (surp N x) more = !neg := by
    intro h
    unfold upN goUp
    rw [h]
    exact ⟨rfl, rfl⟩
  have mono : ∀ q, szN q (x + ((surp N x : Nat) : Int)) ≤ szN (q + 1) (x + ((surp N x : Nat) : Int)) := fun q => szN_mono (Nat.le_succ q) _
  generalize N / 10 ^ min (surp N x) 78 = q at *
  have mq := mono q
  cases hd : (decide (dropD N (min (surp N x) 78) = 0) && !dropM N (min (surp N x) 78) more)
  · obtain ⟨a, b⟩ := up6 hd
    rw [a, b]
    cases neg
    · simp only [Bool.false_eq_true, if_false, Bool.not_false, if_true, Nat.add_zero, vlZ]
      refine ⟨by omega, ?_⟩
      cases upN 1 false N (surp N x) more <;> simp
    · simp only [if_true, Bool.not_true, Bool.false_eq_true, if_false, Nat.add_zero, vlZ]
      refine ⟨by omega, ?_⟩
      cases upN 1 true N (surp N x) more <;> simp
  · rw [dn hd, dn hd, dn hd]
    simp
end Go.Proofs.YtkkddflclakphaaDoor
