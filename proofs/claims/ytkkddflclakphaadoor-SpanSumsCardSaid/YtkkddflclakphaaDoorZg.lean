/-
  What numbers come to as durations, by plain arithmetic: without their places, products and quotients of ints, the document's examples; no program is spoken of.
-/
import Derived.Test.YtkkddflclakphaaDoorZf
import Derived.Test.YtkkddflclakphaaDoorPo
namespace Go.Proofs.YtkkddflclakphaaDoor

/-- Without its places a number that lies between two whole numbers is the one that is nearer to 0. -/
theorem down_between {s : Bool} {c : Nat} {x : Int} {t : Nat} (h : NumD c x) (a : szN t 0 < szN c x) (b : szN c x < szN (t + 1) 0) : rwF 5 s c x = intD (if s then -(t : Int) else (t : Int)) := by
  have c0 : c ≠ 0 := by intro k; rw [k, szN_zero] at a; omega
  have x0 : x < 0 := by
    by_cases k : x < 0
    · exact k
    · exfalso
      rw [szN_down (show -6176 ≤ (0 : Int) by decide) (show 0 ≤ x by omega)] at a b
      have a := szN_lt.1 a
      have b := szN_lt.1 b
      omega
  obtain ⟨s', N', k, _⟩ := scF_whole (m := 5) (n := s) h x0
  rw [rwF_down x0 k]
  obtain ⟨K, hK⟩ : ∃ K : Nat, K = (0 - x).toNat := ⟨_, rfl⟩
  have k5 : scN 5 s c x 0 = some (cutN 5 s c K false) := by unfold scN; rw [if_pos (by omega), hK]
  have c5 : cutN 5 s c K false = c / 10 ^ min K 78 := by unfold cutN; rw [up_down]; simp
  have d34 : nd (cutN 5 s c K false) ≤ 34 := by
    rw [c5]
    have : c / 10 ^ min K 78 ≤ c := Nat.div_le_self _ _
    exact nd_le (Nat.lt_of_le_of_lt this h.1)
  rw [scF_some c0 k5 d34] at k
  simp only [Option.some.injEq, Prod.mk.injEq] at k
  obtain ⟨rfl, rfl, -⟩ := k
  rw [c5]
  have sz : ∀ q, szN q 0 = szN (q * 10 ^ K) x := by intro q; rw [hK]; exact szN_down h.2.1 (by omega)
  have le : c / 10 ^ min K 78 * 10 ^ K ≤ c ∧ c < (c / 10 ^ min K 78 + 1) * 10 ^ K := by
    rcases cut_between (k := K) h.1 with ⟨_, e⟩ | ⟨_, e, e'⟩
    · refine ⟨by omega, ?_⟩
      have := p10 K
      rw [Nat.add_mul]
      omega
    · exact ⟨by omega, e'⟩
  generalize c / 10 ^ min K 78 = q at *
  rw [sz] at a b
  have a := szN_lt.1 a
  have b := szN_lt.1 b
  have P := p10 K
  have q1 : t < q + 1 := Nat.lt_of_mul_lt_mul_right (Nat.lt_trans a le.2)
  have q2 : q < t + 1 := Nat.lt_of_mul_lt_mul_right (Nat.lt_of_le_of_lt le.1 b)
  obtain rfl : q = t := by omega
  unfold intD
  cases s
  · simp only [Bool.false_and, Bool.false_eq_true, if_false]
    rw [decide_eq_false (show ¬ (q : Int) < 0 by omega), show ((q : Int)).natAbs = q by omega]
  · simp only [Bool.true_and, if_true]
    by_cases z : q = 0
    · subst z; rfl
    · rw [decide_eq_false z, decide_eq_true (show -(q : Int) < 0 by omega), show (-(q : Int)).natAbs = q by omega]
      rfl
/-- What comes to a whole number that may be a duration is that duration. -/
theorem ln_of {s : Bool} {c : Nat} {x Z : Int} (e : rwF 5 s c x = intD Z) (h : spB Z = true) : lnB (some (s, c, x)) = true ∧ lnV (some (s, c, x)) = Z := by
  have r := spB_yes.1 h
  have n1 : Z.natAbs ≤ 9007199254740992 := by omega
  have ws : wsB Z.natAbs 0 = true := by
    unfold wsB
    rw [if_neg (by decide), Int.toNat_zero, Nat.pow_zero, Nat.mul_one, decide_eq_true (show (0 : Int) ≤ 38 by decide), decide_eq_true (show Z.natAbs < B128 from Nat.lt_of_le_of_lt n1 (by unfold B128; decide))]
    simp
  have wn : wsN Z.natAbs 0 = Z.natAbs := by
    unfold wsN
    rw [if_neg (by decide), Int.toNat_zero, Nat.pow_zero, Nat.mul_one]
  have wb : ∀ b, whB b Z.natAbs 0 = true := by
    intro b
    unfold whB
    rw [ws, wn, decide_eq_true (show Z.natAbs ≤ mostN b from by unfold mostN; cases b <;> simp <;> omega)]
    rfl
  have wv : whV (decide (Z < 0)) Z.natAbs 0 = Z := by
    unfold whV
    rw [wb, if_pos rfl, wn]
    unfold iN
    by_cases k : Z < 0
    · rw [decide_eq_true k, if_pos rfl]; omega
    · rw [decide_eq_false k, if_neg (by decide)]; omega
  have lb : lnB (some (s, c, x)) = true := by
    unfold lnB
    simp only [e, intD]
    rw [wb, wv, h]
    rfl
  refine ⟨lb, ?_⟩
  unfold lnV
  simp only [lb, if_true, e, intD]
  exact wv
theorem ln_int {Z : Int} (h : spB Z = true) : lnB (some (intD Z)) = true ∧ lnV (some (intD Z)) = Z := ln_of (s := decide (Z < 0)) (c := Z.natAbs) (x := 0) (rwF_up (Int.le_refl 0)) h
/-- A product of ints. -/
theorem prod_ln {A B : Int} (hA : A.natAbs ≤ 1073741824) (hB : B.natAbs ≤ 32768) : lnB (mulF (decide (A < 0)) A.natAbs 0 (decide (B < 0)) B.natAbs 0) = true ∧ lnV (mulF (decide (A < 0)) A.natAbs 0 (decide (B < 0)) B.natAbs 0) = A * B := by
  have b : A.natAbs * B.natAbs ≤ 1073741824 * 32768 := Nat.mul_le_mul hA hB
  rw [mulI (Nat.lt_of_le_of_lt b (by decide))]
  refine ln_int (spB_yes.2 ?_)
  rw [← Int.natAbs_mul] at b
  omega
theorem tdiv_abs {n m : Int} : n.tdiv m = if decide (n < 0) != decide (m < 0) then -((n.natAbs / m.natAbs : Nat) : Int) else ((n.natAbs / m.natAbs : Nat) : Int) := by
  obtain ⟨N, hN⟩ : ∃ N, N = n.natAbs := ⟨_, rfl⟩
  obtain ⟨M, hM⟩ : ∃ M, M = m.natAbs := ⟨_, rfl⟩
  rw [← hN, ← hM]
  by_cases a : n < 0 <;> by_cases b : m < 0
  · rw [decide_eq_true a, decide_eq_true b, show n = -(N : Int) by omega, show m = -(M : Int) by omega, Int.tdiv_neg, Int.neg_tdiv, Int.neg_neg]; rfl
  · rw [decide_eq_true a, decide_eq_false b, show n = -(N : Int) by omega, show m = (M : Int) by omega, Int.neg_tdiv]; rfl
  · rw [decide_eq_false a, decide_eq_true b, show n = (N : Int) by omega, show m = -(M : Int) by omega, Int.tdiv_neg]; rfl
  · rw [decide_eq_false a, decide_eq_false b, show n = (N : Int) by omega, show m = (M : Int) by omega]; rfl
/-- A quotient of ints, without its places. -/
theorem quot_down {n m : Int} {q : Option (Bool × Nat × Int)} (hn : n.natAbs ≤ 1073741824) (hm : m.natAbs ≤ 32768) (zm : m ≠ 0) (D : DivP (decide (n < 0)) n.natAbs 0 (decide (m < 0)) m.natAbs 0 q) : lnB q = true ∧ lnV q = n.tdiv m := by
  have tb : (n.natAbs / m.natAbs : Nat) ≤ 1073741824 := Nat.le_trans (Nat.div_le_self _ _) hn
  have zM : m.natAbs ≠ 0 := by omega
  rw [tdiv_abs]
  have hn' : n.natAbs < 10 ^ 10 := Nat.lt_of_le_of_lt hn (by decide)
  have hm' : m.natAbs < 10 ^ 8 := Nat.lt_of_le_of_lt hm (by decide)
  have M0 : 0 < m.natAbs := by omega
  have dm := Nat.div_add_mod n.natAbs m.natAbs
  clear hn hm
  generalize decide (n < 0) = sn at *
  generalize decide (m < 0) = sm at *
  generalize n.natAbs = N at *
  generalize m.natAbs = M at *
  obtain ⟨t, ht⟩ : ∃ t, t = N / M := ⟨_, rfl⟩
  rw [← ht] at tb dm ⊢
  have sp : ∀ b : Bool, spB (if b then -(t : Int) else (t : Int)) = true := by intro b; rw [spB_yes]; cases b <;> simp <;> omega
  by_cases r0 : N % M = 0
  · have nt : N = t * M := by rw [Nat.mul_comm]; omega
    have q1 : q = some (intD (if (sn != sm) then -(t : Int) else (t : Int))) := by
      by_cases n0 : N = 0
      · have t0 : t = 0 := by rw [ht, n0, Nat.zero_div]
        rw [t0]
        rcases D with ⟨k, _⟩ | ⟨_, _, k⟩ | ⟨_, k, _⟩
        · exact absurd k zM
        · rw [k]
          refine (fit_int (by decide) ?_ : fitF 1 false 0 false 0 = _)
          split <;> rfl
        · exact absurd n0 k
      · rw [DivP_mult D (Nat.lt_of_lt_of_le hn' (by decide)) (Nat.lt_of_lt_of_le hm' (by decide)) zM n0 nt]
        exact fit_int (Nat.lt_of_le_of_lt tb (by decide)) rfl
    rw [q1]
    exact ln_int (sp _)
  · obtain ⟨c, x, e, num, a1, a2⟩ := div_near hn' hm' zM r0 D
    rw [← ht] at a1 a2
    rw [e]
    exact ln_of (down_between num a1 a2) (sp _)
/-- The document's examples. -/
theorem ex_times : lnB (mulF (decide ((3 : Int) < 0)) (3 : Int).natAbs 0 false 15 (-1)) = true ∧ lnV (mulF (decide ((3 : Int) < 0)) (3 : Int).natAbs 0 false 15 (-1)) = 4 := by
  rw [show mulF (decide ((3 : Int) < 0)) (3 : Int).natAbs 0 false 15 (-1) = some (false, 45, -1) by decide +kernel]
  exact ln_of (show rwF 5 false 45 (-1) = intD 4 by decide +kernel) (by decide)
end Go.Proofs.YtkkddflclakphaaDoor
