/-
  The order of decimal numbers by plain arithmetic: a sum as it is lies between a size and one step more; what is not below a number is not fitted below it.
-/
import Derived.Test.YtkkddflclakphaaDoorPb
namespace Go.Proofs.YtkkddflclakphaaDoor

/-- S is told by sign, size, exponent and whether there is a little more. -/
def Told (S : Int) (s : Bool) (N : Nat) (x : Int) (more : Bool) : Prop :=
  ∃ T : Nat, S = (if s then -(T : Int) else (T : Int)) ∧ szN N x ≤ T ∧ T < szN (N + 1) x ∧ (more = false → T = szN N x) ∧ (more = true → szN N x < T)

theorem szN_zero (x : Int) : szN 0 x = 0 := by unfold szN; rw [Nat.zero_mul]
theorem szN_split {c k : Nat} {x : Int} (h : -6176 ≤ x) : szN (c * 10 ^ k) x = szN c (x + (k : Int)) := by
  have := szN_shift (c := c) (k := k) (x := x + (k : Int)) (by omega)
  rw [show x + (k : Int) - (k : Int) = x by omega] at this
  exact this
theorem szN_add (a b : Nat) (x : Int) : szN (a + b) x = szN a x + szN b x := by unfold szN; rw [Nat.add_mul]
theorem szN_mono {a b : Nat} (h : a ≤ b) (x : Int) : szN a x ≤ szN b x := Nat.mul_le_mul_right _ h
theorem szN_lt {a b : Nat} {x : Int} : szN a x < szN b x ↔ a < b := by unfold szN; exact Nat.mul_lt_mul_right (p10 _)
theorem szN_le {a b : Nat} {x : Int} : szN a x ≤ szN b x ↔ a ≤ b := by unfold szN; exact Nat.mul_le_mul_right_iff (p10 _)
/-- A size at a higher exponent, seen from a lower one. -/
theorem szN_down {c : Nat} {x y : Int} (h : -6176 ≤ x) (k : x ≤ y) : szN c y = szN (c * 10 ^ (y - x).toNat) x := by
  rw [szN_split h]
  congr 1
  omega

/-- Something is dropped where the size goes up. -/
theorem up_some {m : Nat} {neg : Bool} {N n : Nat} {more : Bool} (hn : n ≤ 78) (h : upN m neg N n more = true) : more = true ∨ N % 10 ^ n ≠ 0 := by
  cases more
  · right
    intro z
    have e : min n 78 = n := Nat.min_eq_left hn
    unfold upN at h
    rw [e] at h
    have d : dropD N n = 0 := by
      unfold dropD
      split
      · rfl
      · rename_i z0
        have : N % 10 ^ n / 10 ^ (n - 1) = N / 10 ^ (n - 1) % 10 := by
          rw [show n = (n - 1) + 1 by omega, Nat.pow_succ, Nat.add_sub_cancel, Nat.mod_mul_right_div_self]
        rw [← this, z, Nat.zero_div]
    have q : dropM N n false = false := by
      unfold dropM
      have : N % 10 ^ (n - 1) = 0 := by
        rcases Nat.eq_zero_or_pos n with y | y
        · subst y; exact Nat.mod_one _
        · have : N % 10 ^ n % 10 ^ (n - 1) = N % 10 ^ (n - 1) := Nat.mod_mod_of_dvd _ (Nat.pow_dvd_pow 10 (Nat.sub_le n 1))
          rw [← this, z, Nat.zero_mod]
      rw [this]; rfl
    rw [d, q, goUp_none] at h
    exact absurd h (by decide)
  · exact .inl rfl

theorem surp_le {N : Nat} {x : Int} (hN : N < B128 * B128) (hx : -6176 ≤ x) : surp N x = nd N - 34 ∧ surp N x ≤ 78 := by
  have : nd N ≤ 78 := nd_le (Nat.lt_trans hN B256_lt)
  unfold surp
  omega

/-- What is fitted, with its sign. -/
theorem fit_value {m : Nat} {s0 more s : Bool} {N c : Nat} {x e : Int} (h : fitF m s0 N more x = some (s, c, e)) (hN : N < B128 * B128) :
    vlZ s c e = vlZ s0 (cutN m s0 N (surp N x) more) (x + ((surp N x : Nat) : Int)) := by
  rcases fitF_some h hN with ⟨a, b, d, _⟩ | ⟨_, b, _, _, _, f⟩
  · rw [a, b, d]
    unfold vlZ
    rw [szN_zero, szN_zero]
    cases s0 <;> rfl
  · rw [b]
    unfold vlZ
    rw [f]

/-- The size that is left, and what it lies between. -/
theorem cut_steps {m : Nat} {s0 more : Bool} {N : Nat} {x : Int} (hN : N < B128 * B128) (hx : -6176 ≤ x) :
    (cutN m s0 N (surp N x) more = N / 10 ^ surp N x ∨ (cutN m s0 N (surp N x) more = N / 10 ^ surp N x + 1 ∧ (more = true ∨ N % 10 ^ surp N x ≠ 0))) := by
  obtain ⟨_, h78⟩ := surp_le hN hx
  unfold cutN
  rw [Nat.min_eq_left h78]
  cases u : upN m s0 N (surp N x) more
  · exact .inl (by simp)
  · exact .inr ⟨by simp, up_some h78 u⟩

/-- Of a number a and something that is not below it (told by N steps): if a is not finer than a step, or there are many steps, the fitted one is not below a. -/
theorem fit_above {m : Nat} {na s0 more s : Bool} {ca N c : Nat} {ea x e S : Int} (h : fitF m s0 N more x = some (s, c, e)) (hN : N < B128 * B128) (hx : -6176 ≤ x) (hA : NumD ca ea)
    (hT : Told S s0 N x more) (hf : x ≤ ea ∨ 10 ^ 35 ≤ N) (hle : vlZ na ca ea ≤ S) : vlZ na ca ea ≤ vlZ s c e := by
  rw [fit_value h hN]
  obtain ⟨T, t1, t2, t3, t4, t5⟩ := hT
  obtain ⟨sn, _⟩ := surp_le hN hx
  have cs := cut_steps (m := m) (s0 := s0) (more := more) hN hx
  generalize hn : surp N x = n at *
  obtain ⟨q, hq⟩ : ∃ q, q = N / 10 ^ n := ⟨_, rfl⟩
  rw [← hq] at cs
  generalize cutN m s0 N n more = d at *
  have dq : q ≤ d := by omega
  have qN : q * 10 ^ n ≤ N := by rw [hq]; exact Nat.div_mul_le_self _ _
  have Nq : N < (q + 1) * 10 ^ n := by rw [hq, Nat.mul_comm]; exact Nat.lt_mul_div_succ _ (p10 _)
  have pA : szN ca ea < szN (10 ^ 34) ea := szN_lt.2 hA.1
  -- a step is finer than the number, or the cut has 34 digits
  have way : x + (n : Int) ≤ ea ∨ (ea < x + (n : Int) ∧ 10 ^ 33 ≤ q) := by
    rcases Int.lt_or_le ea (x + (n : Int)) with z | z
    · right
      refine ⟨z, ?_⟩
      have n0 : 0 < n := by
        rcases hf with f | f
        · omega
        · have := nd_ge f; omega
      have nN : nd N = n + 34 := by omega
      have l : 10 ^ (nd N - 1) ≤ N := nd_min (by intro k; rw [k, nd_zero] at nN; omega)
      rw [nN, show n + 34 - 1 = 33 + n by omega, Nat.pow_add] at l
      rw [hq]
      exact (Nat.le_div_iff_mul_le (p10 _)).2 l
    · exact .inl z
  have big : ∀ {k : Nat}, ea < x + (n : Int) → 10 ^ 33 ≤ k → szN (10 ^ 34) ea ≤ szN k (x + (n : Int)) := by
    intro k z l
    rw [szN_down (x := ea) (y := x + (n : Int)) (c := k) hA.2.1 (by omega), szN_le]
    obtain ⟨j, hj⟩ : ∃ j, (x + (n : Int) - ea).toNat = j + 1 := ⟨(x + (n : Int) - ea).toNat - 1, by omega⟩
    rw [hj]
    have g := Nat.mul_le_mul l (p10_mono (show 1 ≤ j + 1 by omega))
    exact Nat.le_trans (by decide) g
  cases s0
  · -- from 0 on
    rw [show vlZ false d (x + (n : Int)) = (szN d (x + (n : Int)) : Int) from rfl]
    simp only [Bool.false_eq_true, if_false] at t1
    cases na
    · simp only [vlZ, Bool.false_eq_true, if_false] at hle ⊢
      have AT : szN ca ea ≤ T := by omega
      rcases way with z | ⟨z, l⟩
      · rw [szN_down (x := x + (n : Int)) (y := ea) (c := ca) (by omega) z] at AT ⊢
        generalize ca * 10 ^ (ea - (x + (n : Int))).toNat = a' at *
        rw [← szN_split hx] at AT
        have := Nat.lt_of_le_of_lt AT t3
        rw [szN_lt] at this
        have a1 : a' ≤ q := by
          apply Nat.le_of_lt_succ
          exact Nat.lt_of_mul_lt_mul_right (a := 10 ^ n) (Nat.lt_of_le_of_lt (Nat.le_of_lt_succ this) Nq)
        have := szN_mono (Nat.le_trans a1 dq) (x + (n : Int))
        omega
      · have := big (k := d) z (by omega)
        omega
    · simp only [vlZ, if_true]
      omega
  · -- below 0
    simp only [if_true] at t1
    rw [show vlZ true d (x + (n : Int)) = -(szN d (x + (n : Int)) : Int) from rfl]
    have TA : T ≤ szN ca ea ∧ (na = true ∨ T = 0) := by
      cases na
      · simp only [vlZ, Bool.false_eq_true, if_false] at hle
        exact ⟨by omega, .inr (by omega)⟩
      · simp only [vlZ, if_true] at hle
        exact ⟨by omega, .inl rfl⟩
    have fin : szN d (x + (n : Int)) ≤ szN ca ea ∧ (T = 0 → szN d (x + (n : Int)) = 0) := by
      have T0 : T = 0 → szN d (x + (n : Int)) = 0 := by
        intro z
        have n0 : N = 0 := by
          have : szN N x = szN 0 x := by rw [szN_zero]; omega
          unfold szN at this
          exact Nat.eq_of_mul_eq_mul_right (p10 _) this
        have q0 : q = 0 := by rw [hq, n0, Nat.zero_div]
        have m0 : more = false := by
          cases more
          · rfl
          · have := t5 rfl; omega
        have d0 : d = 0 := by
          rcases cs with k | ⟨_, k | k⟩
          · omega
          · rw [m0] at k; exact absurd k (by decide)
          · rw [n0, Nat.zero_mod] at k; exact absurd rfl k
        rw [d0, szN_zero]
      refine ⟨?_, T0⟩
      rcases way with z | ⟨z, l⟩
      · have TA1 := TA.1
        rw [szN_down (x := x + (n : Int)) (y := ea) (c := ca) (by omega) z] at TA1 ⊢
        generalize ca * 10 ^ (ea - (x + (n : Int))).toNat = a' at *
        rw [← szN_split hx] at TA1
        rw [szN_le]
        have Na : N ≤ a' * 10 ^ n := szN_le.1 (Nat.le_trans t2 TA1)
        have qa : q ≤ a' := Nat.le_of_mul_le_mul_right (Nat.le_trans qN Na) (p10 n)
        rcases cs with k | ⟨k, k'⟩
        · omega
        · have : q ≠ a' := by
            intro y
            subst y
            have e1 : N = q * 10 ^ n := Nat.le_antisymm Na qN
            rcases k' with k' | k'
            · have := t5 k'
              rw [← e1] at TA1
              omega
            · apply k'
              rw [e1, Nat.mul_mod_left]
          omega
      · exfalso
        have l2 := big (k := q) z l
        rw [← szN_split hx] at l2
        have := szN_mono qN x
        omega
    cases na
    · have z : T = 0 := by rcases TA.2 with k | k
                           · exact absurd k (by decide)
                           · exact k
      rw [fin.2 z]
      have := TA.1
      simp only [vlZ, Bool.false_eq_true, if_false] at hle ⊢
      omega
    · simp only [vlZ, if_true]
      omega

/-- A sum as it is. -/
theorem sumH_told {na nb : Bool} {ca cb : Nat} {ea eb : Int} (_h1 : NumD ca ea) (h2 : NumD cb eb) (h : eb ≤ ea) :
    Told (vlZ na ca ea + vlZ nb cb eb) (sumH na ca ea nb cb eb).1 (sumH na ca ea nb cb eb).2.1 (sumH na ca ea nb cb eb).2.2.1 (sumH na ca ea nb cb eb).2.2.2 ∧
    (eb ≤ (sumH na ca ea nb cb eb).2.2.1 ∧ (sumH na ca ea nb cb eb).2.2.1 ≤ ea) ∧ ((sumH na ca ea nb cb eb).2.2.1 ≤ eb ∨ 10 ^ 35 ≤ (sumH na ca ea nb cb eb).2.1) := by
  obtain ⟨D, hD⟩ : ∃ D, D = (ea - eb).toNat := ⟨_, rfl⟩
  unfold sumH
  rw [← hD]
  by_cases z : ca = 0
  · rw [if_pos z]
    refine ⟨?_, ⟨Int.le_refl _, h⟩, .inl (Int.le_refl _)⟩
    show Told _ nb cb eb false
    refine ⟨szN cb eb, ?_, Nat.le_refl _, szN_lt.2 (Nat.lt_succ_self _), fun _ => rfl, fun k => absurd k (by decide)⟩
    rw [z]
    unfold vlZ
    rw [szN_zero]
    cases na <;> cases nb <;> simp
  · rw [if_neg z]
    obtain ⟨k, hk⟩ : ∃ k, k = min D 38 := ⟨_, rfl⟩
    obtain ⟨r, hr⟩ : ∃ r, r = D - 38 := ⟨_, rfl⟩
    rw [← hk, ← hr]
    have kr : ea - (k : Int) = eb + (r : Int) := by omega
    have hx : -6176 ≤ ea - (k : Int) := by have := h2.2.1; omega
    have eA : szN ca ea = szN (ca * 10 ^ k) (ea - (k : Int)) := (szN_shift hx).symm
    have eB : szN cb eb = szN (cb / 10 ^ r) (ea - (k : Int)) + szN (cb % 10 ^ r) eb := by
      rw [kr, ← szN_split h2.2.1, ← szN_add, Nat.mul_comm, Nat.div_add_mod]
    have rest : szN (cb % 10 ^ r) eb < szN 1 (ea - (k : Int)) := by
      rw [kr, ← szN_split h2.2.1, szN_lt, Nat.one_mul]
      exact Nat.mod_lt _ (p10 _)
    have Llow : cb / 10 ^ r < 10 ^ 34 := Nat.lt_of_le_of_lt (Nat.div_le_self _ _) h2.1
    have far : r = 0 ∨ (0 < r ∧ 10 ^ 38 ≤ ca * 10 ^ k) := by
      rcases Nat.eq_zero_or_pos r with y | y
      · exact .inl y
      · refine .inr ⟨y, ?_⟩
        rw [show k = 38 by omega]
        exact Nat.le_mul_of_pos_left _ (Nat.pos_of_ne_zero z)
    have rz : r = 0 → cb % 10 ^ r = 0 := by intro y; rw [y]; exact Nat.mod_one _
    have re : ea - (k : Int) ≤ eb ∨ 0 < r := by omega
    generalize ea - (k : Int) = x at *
    generalize ca * 10 ^ k = H at *
    generalize cb / 10 ^ r = L at *
    generalize cb % 10 ^ r = t at *
    have tz : t = 0 → szN t eb = 0 := by intro y; rw [y, szN_zero]
    have tn : t ≠ 0 → 0 < szN t eb := by intro y; exact Nat.mul_pos (Nat.pos_of_ne_zero y) (p10 _)
    have xr : eb ≤ x ∧ x ≤ ea := by omega
    have one : ∀ j, szN (j + 1) x = szN j x + szN 1 x := fun j => szN_add j 1 x
    have c35 : (10 : Nat) ^ 35 + 10 ^ 34 + 1 ≤ 10 ^ 38 := by decide
    generalize hS1 : szN 1 x = o at *
    by_cases s : na = nb
    · rw [if_pos s]
      subst s
      refine ⟨?_, xr, ?_⟩
      · show Told _ na (H + L) x (decide (t ≠ 0))
        refine ⟨szN ca ea + szN cb eb, ?_, ?_, ?_, ?_, ?_⟩
        · unfold vlZ; cases na <;> simp <;> omega
        · rw [szN_add]; omega
        · rw [one, szN_add]; omega
        · intro y
          have : t = 0 := by simpa using y
          rw [szN_add]
          have := tz this
          omega
        · intro y
          have : t ≠ 0 := by simpa using y
          rw [szN_add]
          have := tn this
          omega
      · show x ≤ eb ∨ 10 ^ 35 ≤ H + L
        rcases far with f | ⟨f, g⟩
        · left; omega
        · right; omega
    · rw [if_neg s]
      have nn : nb = !na := by cases na <;> cases nb <;> simp_all
      by_cases lt : H < L
      · rw [if_pos lt]
        have r0 : r = 0 := by
          rcases far with f | ⟨f, g⟩
          · exact f
          · exfalso; omega
        have t0 := tz (rz r0)
        refine ⟨?_, xr, .inl (by show x ≤ eb; omega)⟩
        show Told _ nb (L - H) x false
        have e : szN L x = szN H x + szN (L - H) x := by rw [← szN_add]; congr 1; omega
        refine ⟨szN (L - H) x, ?_, Nat.le_refl _, szN_lt.2 (Nat.lt_succ_self _), fun _ => rfl, fun k => absurd k (by decide)⟩
        subst nn
        unfold vlZ
        cases na <;> simp <;> omega
      · rw [if_neg lt]
        refine ⟨?_, xr, ?_⟩
        · show Told _ na (H - L - (if t ≠ 0 then 1 else 0)) x (decide (t ≠ 0))
          by_cases t0 : t = 0
          · rw [if_neg (fun k => k t0), decide_eq_false (fun k => k t0), Nat.sub_zero]
            have q := tz t0
            have e : szN H x = szN L x + szN (H - L) x := by rw [← szN_add]; congr 1; omega
            refine ⟨szN (H - L) x, ?_, Nat.le_refl _, szN_lt.2 (Nat.lt_succ_self _), fun _ => rfl, fun k => absurd k (by decide)⟩
            subst nn
            unfold vlZ
            cases na <;> simp <;> omega
          · rw [if_pos t0, decide_eq_true t0]
            have q := tn t0
            have HL : L + 1 ≤ H := by
              rcases far with f | ⟨f, g⟩
              · exact absurd (rz f) t0
              · omega
            have e : szN H x = szN L x + szN (H - L - 1) x + o := by rw [← hS1, ← szN_add, ← szN_add]; congr 1; omega
            have e1 := one (H - L - 1)
            refine ⟨szN H x - szN L x - szN t eb, ?_, ?_, ?_, fun k => absurd k (by decide), fun _ => ?_⟩
            · subst nn
              unfold vlZ
              cases na <;> simp <;> omega
            · omega
            · omega
            · omega
        · show x ≤ eb ∨ 10 ^ 35 ≤ H - L - _
          rcases far with f | ⟨f, g⟩
          · left; omega
          · right
            split <;> omega
theorem sumF_told {na nb : Bool} {ca cb : Nat} {ea eb : Int} (h1 : NumD ca ea) (h2 : NumD cb eb) :
    Told (vlZ na ca ea + vlZ nb cb eb) (sumF na ca ea nb cb eb).1 (sumF na ca ea nb cb eb).2.1 (sumF na ca ea nb cb eb).2.2.1 (sumF na ca ea nb cb eb).2.2.2 ∧
    -6176 ≤ (sumF na ca ea nb cb eb).2.2.1 ∧ ((sumF na ca ea nb cb eb).2.2.1 ≤ ea ∨ 10 ^ 35 ≤ (sumF na ca ea nb cb eb).2.1) ∧ ((sumF na ca ea nb cb eb).2.2.1 ≤ eb ∨ 10 ^ 35 ≤ (sumF na ca ea nb cb eb).2.1) := by
  unfold sumF
  by_cases h : ea < eb
  · rw [if_pos h, Int.add_comm]
    obtain ⟨a, ⟨b, b'⟩, c⟩ := sumH_told (na := nb) (nb := na) h2 h1 (by omega)
    exact ⟨a, by have := h1.2.1; omega, c, .inl b'⟩
  · rw [if_neg h]
    obtain ⟨a, ⟨b, b'⟩, c⟩ := sumH_told (na := na) (nb := nb) h1 h2 (by omega)
    exact ⟨a, by have := h2.2.1; omega, .inl b', c⟩

/-- A sum with something from 0 on is not below. -/
theorem addF_above {na : Bool} {ca cb : Nat} {ea eb : Int} {s : Bool} {c : Nat} {e : Int} (h1 : NumD ca ea) (h2 : NumD cb eb) (h : addF na ca ea false cb eb = some (s, c, e)) : vlZ na ca ea ≤ vlZ s c e := by
  obtain ⟨a, b, d, _⟩ := sumF_told (na := na) (nb := false) h1 h2
  refine fit_above h (sumF_bound h1.1 h2.1) b h1 a d ?_
  have : (0 : Int) ≤ vlZ false cb eb := by unfold vlZ; simp
  omega

theorem cmpZ_lt {a b : Int} : cmpZ a b < 0 ↔ a < b := by unfold cmpZ; split <;> (try split) <;> omega
theorem cmpZ_neg (a b : Int) : cmpZ a b = -cmpZ b a := by unfold cmpZ; split <;> split <;> (try split) <;> omega
theorem cmpZ_turn (a b : Int) : cmpZ (-a) (-b) = -cmpZ a b := by unfold cmpZ; split <;> split <;> (try split) <;> (try split) <;> omega
theorem cmpZ_le {a b : Int} : cmpZ a b ≤ 0 ↔ a ≤ b := by unfold cmpZ; split <;> (try split) <;> omega
theorem cmpZ_ge {a b : Int} : 0 ≤ cmpZ a b ↔ b ≤ a := by unfold cmpZ; split <;> (try split) <;> omega
theorem cmpZ_eq {a b : Int} : cmpZ a b = 0 ↔ a = b := by unfold cmpZ; split <;> (try split) <;> omega
end Go.Proofs.YtkkddflclakphaaDoor
