/-
  Floors and ceilings by plain arithmetic: a floor is not above, and less than 1 below; a ceiling is 0 less the floor of 0 less it; 1 more is a number; no program is spoken of.
-/
import Derived.Test.YtkkddflclakphaaDoorVall
namespace Go.Proofs.YtkkddflclakphaaDoor

theorem rwF_up {m : Nat} {n : Bool} {c : Nat} {x : Int} (h : 0 ≤ x) : rwF m n c x = (n, c, x) := by unfold rwF; rw [if_pos h]
theorem rwF_down {m : Nat} {n : Bool} {c : Nat} {x : Int} {r : Bool × Nat × Int} (h : x < 0) (k : scF m n c x 0 = some r) : rwF m n c x = r := by unfold rwF; rw [if_neg (by omega), k]; rfl
theorem neg_neg {n : Bool} {c : Nat} (z : c = 0 → n = false) : (!(!n && !decide (c = 0)) && !decide (c = 0)) = n := by
  by_cases k : c = 0
  · rw [z k, decide_eq_true k]; rfl
  · rw [decide_eq_false k]; cases n <;> rfl
theorem cut_turn (n : Bool) (c k : Nat) : cutN 7 n c k false = cutN 6 (!n) c k false := by
  unfold cutN
  by_cases r : c % 10 ^ min k 78 = 0
  · rw [up_of r, up_of r]
  · rw [up_ceil r, up_floor r]
/-- A ceiling is 0 less the floor of 0 less it. -/
theorem ceil_turn {n : Bool} {c : Nat} {x : Int} {s : Bool} {N : Nat} {y : Int} (h : NumD c x) (z : c = 0 → n = false) (e : rwF 6 (!n && !decide (c = 0)) c x = (s, N, y)) : rwF 7 n c x = (!s && !decide (N = 0), N, y) := by
  by_cases x0 : 0 ≤ x
  · rw [rwF_up x0] at e ⊢
    simp only [Prod.mk.injEq] at e
    obtain ⟨rfl, rfl, rfl⟩ := e
    rw [neg_neg z]
  · by_cases c0 : c = 0
    · rw [rwF_down (by omega) (scF_zero 6 _ x 0 c0)] at e
      rw [rwF_down (by omega) (scF_zero 7 n x 0 c0)]
      simp only [Prod.mk.injEq] at e
      obtain ⟨rfl, rfl, rfl⟩ := e
      rfl
    · rw [decide_eq_false c0, Bool.not_false, Bool.and_true] at e
      have k6 : scN 6 (!n) c x 0 = some (cutN 6 (!n) c (0 - x).toNat false) := by unfold scN; rw [if_pos (by omega)]
      have k7 : scN 7 n c x 0 = some (cutN 7 n c (0 - x).toNat false) := by unfold scN; rw [if_pos (by omega)]
      have u := (upN_le 7 n c (0 - x).toNat false).2
      have d : c / 10 ^ min (0 - x).toNat 78 ≤ c / 10 ^ 1 := Nat.div_le_div_left (p10_mono (by omega)) (p10 1)
      have d34 : nd (cutN 7 n c (0 - x).toNat false) ≤ 34 := by
        have : c / 10 ^ 1 < 10 ^ 33 := Nat.div_lt_of_lt_mul (by rw [← Nat.pow_add]; exact h.1)
        exact nd_le (Nat.lt_of_le_of_lt (show cutN 7 n c (0 - x).toNat false ≤ 10 ^ 33 + 1 by omega) (by decide))
      rw [cut_turn] at k7 d34
      rw [rwF_down (by omega) (scF_some c0 k6 d34)] at e
      rw [rwF_down (by omega) (scF_some c0 k7 d34)]
      simp only [Prod.mk.injEq] at e
      obtain ⟨rfl, rfl, rfl⟩ := e
      generalize cutN 6 (!n) c (0 - x).toNat false = M
      by_cases q : M = 0
      · rw [decide_eq_true q]; cases n <;> rfl
      · rw [decide_eq_false q]; cases n <;> rfl
theorem szN_one : 0 < szN 1 0 := Nat.mul_pos (by decide) (p10 _)
/-- A floor is not above the number, and less than 1 below it. -/
theorem floor_near {n : Bool} {c : Nat} {x : Int} {s : Bool} {N : Nat} {y : Int} (h : NumD c x) (z : c = 0 → n = false) (x0 : x < 0) (e : rwF 6 n c x = (s, N, y)) : y = 0 ∧ N ≤ 10 ^ 33 + 1 ∧ (N = 0 → s = false) ∧ vlZ s N 0 ≤ vlZ n c x ∧ vlZ n c x < vlZ s N 0 + (szN 1 0 : Int) := by
  obtain ⟨s', N', k, b⟩ := scF_whole (m := 6) (n := n) h x0
  rw [rwF_down x0 k] at e
  simp only [Prod.mk.injEq] at e
  obtain ⟨rfl, rfl, rfl⟩ := e
  refine ⟨rfl, b, (scF_num k (by decide) (by decide)).2.1, ?_⟩
  have one := szN_one
  by_cases c0 : c = 0
  · rw [scF_zero 6 n x 0 c0] at k
    simp only [Option.some.injEq, Prod.mk.injEq] at k
    obtain ⟨rfl, rfl, -⟩ := k
    rw [z c0, c0]
    have v : ∀ t : Int, vlZ false 0 t = 0 := by intro t; unfold vlZ; rw [szN_zero]; rfl
    rw [v, v]
    omega
  · obtain ⟨K, hK⟩ : ∃ K : Nat, K = (0 - x).toNat := ⟨_, rfl⟩
    have k6 : scN 6 n c x 0 = some (cutN 6 n c K false) := by unfold scN; rw [if_pos (by omega), hK]
    have d34 : nd (cutN 6 n c K false) ≤ 34 := by
      have u := (upN_le 6 n c K false).2
      have d : c / 10 ^ min K 78 ≤ c / 10 ^ 1 := Nat.div_le_div_left (p10_mono (by omega)) (p10 1)
      have : c / 10 ^ 1 < 10 ^ 33 := Nat.div_lt_of_lt_mul (by rw [← Nat.pow_add]; exact h.1)
      exact nd_le (Nat.lt_of_le_of_lt (show cutN 6 n c K false ≤ 10 ^ 33 + 1 by omega) (by decide))
    rw [scF_some c0 k6 d34] at k
    simp only [Option.some.injEq, Prod.mk.injEq] at k
    obtain ⟨rfl, rfl, -⟩ := k
    rw [vlZ_sign]
    have sz : ∀ q, szN q 0 = szN (q * 10 ^ K) x := by intro q; rw [hK]; exact szN_down h.2.1 (by omega)
    rcases cut_between (k := K) h.1 with ⟨r, e⟩ | ⟨r, e, e'⟩
    · have cc : cutN 6 n c K false = c / 10 ^ min K 78 := by unfold cutN; rw [up_of r]; simp
      rw [cc, sz, e]
      unfold vlZ
      cases n
      · simp only [Bool.false_eq_true, if_false]; omega
      · simp only [if_true]; omega
    · have c6 : cutN 6 n c K false = c / 10 ^ min K 78 + (if n then 1 else 0) := by unfold cutN; rw [up_floor r]
      rw [c6]
      generalize c / 10 ^ min K 78 = q at *
      have l1 : szN q 0 < szN c x := by rw [sz]; exact szN_lt.2 e
      have l2 : szN c x < szN (q + 1) 0 := by rw [sz]; exact szN_lt.2 e'
      have ad := szN_add q 1 0
      unfold vlZ
      cases n
      · simp only [Bool.false_eq_true, if_false, Nat.add_zero]; omega
      · simp only [if_true]; omega
/-- 1 more than a whole number. -/
theorem add_one {s : Bool} {N : Nat} (b : N ≤ 10 ^ 33 + 1) (z : N = 0 → s = false) : ∃ s' N', addF s N 0 false 1 0 = some (s', N', 0) ∧ NumD N' 0 ∧ vlZ s' N' 0 = vlZ s N 0 + (szN 1 0 : Int) := by
  have l34 : 10 ^ 33 + 1 + 1 < 10 ^ 34 := by decide
  unfold addF sumF
  rw [if_neg (by omega)]
  unfold sumH
  simp only [Int.sub_self, Int.toNat_zero, Nat.zero_min, Nat.pow_zero, Nat.mul_one, Nat.zero_sub, Nat.div_one, Nat.mod_one]
  by_cases n0 : N = 0
  · rw [if_pos n0, z n0, n0]
    refine ⟨false, 1, fitF_self ⟨by decide, by decide, by decide⟩ (fun _ => rfl), ⟨by decide, by decide, by decide⟩, ?_⟩
    unfold vlZ
    rw [szN_zero]
    simp
  · rw [if_neg n0]
    cases s
    · rw [if_pos rfl]
      refine ⟨false, N + 1, (fitF_self ⟨by omega, by decide, by decide⟩ (fun _ => rfl) : fitF 1 false (N + 1) false 0 = some (false, N + 1, 0)), ⟨by omega, by decide, by decide⟩, ?_⟩
      unfold vlZ
      have := szN_add N 1 0
      simp only [Bool.false_eq_true, if_false]
      omega
    · rw [if_neg (by decide), if_neg (by omega)]
      simp only [ne_eq, not_true_eq_false, if_false, decide_false, Nat.sub_zero]
      obtain ⟨M, rfl⟩ : ∃ M, N = M + 1 := ⟨N - 1, by omega⟩
      have ad := szN_add M 1 0
      have v : vlZ true (M + 1) 0 + (szN 1 0 : Int) = -(szN M 0 : Int) := by unfold vlZ; simp only [if_true]; omega
      rw [v]
      by_cases m0 : M = 0
      · subst m0
        refine ⟨false, 0, ?_, ⟨by decide, by decide, by decide⟩, ?_⟩
        · show fitF 1 true 0 false 0 = _
          rw [fit_zero]
          exact fitF_self ⟨by decide, by decide, by decide⟩ (fun _ => rfl)
        · unfold vlZ; rw [szN_zero]; rfl
      · refine ⟨true, M, ?_, ⟨by omega, by decide, by decide⟩, ?_⟩
        · exact (fitF_self ⟨by omega, by decide, by decide⟩ (fun k => absurd k m0) : fitF 1 true M false 0 = some (true, M, 0))
        · unfold vlZ; simp only [if_true]
theorem fitT_ok {s : Bool} {c : Nat} {e : Int} (h : e ≤ 6110 ∨ (e ≤ 6111 ∧ c ≠ 10 ^ 34)) : ∃ r, fitT s c e = some r := by
  have fe : ∀ c e, e ≤ 6111 → ∃ r, fitE s c e = some r := by
    intro c e k
    unfold fitE
    by_cases z : c = 0
    · rw [if_pos z]; exact ⟨_, rfl⟩
    · rw [if_neg z, if_pos k]; exact ⟨_, rfl⟩
  unfold fitT
  by_cases t : c = 10 ^ 34
  · rw [if_pos t]
    exact fe _ _ (by rcases h with h | h; omega; exact absurd t h.2)
  · rw [if_neg t]
    exact fe _ _ (by omega)
/-- 1 more than any number without places is a number. -/
theorem add_one_some {n : Bool} {c : Nat} {x : Int} (h : NumD c x) (x0 : 0 ≤ x) : ∃ r, addF n c x false 1 0 = some r := by
  obtain ⟨c34, x1, x2⟩ := h
  unfold addF sumF
  rw [if_neg (by omega)]
  unfold sumH
  by_cases c0 : c = 0
  · rw [if_pos c0]
    exact ⟨_, fitF_self ⟨by decide, by decide, by decide⟩ (fun _ => rfl)⟩
  · rw [if_neg c0]
    rw [Int.sub_zero]
    obtain ⟨K, hK⟩ : ∃ K, K = min x.toNat 38 := ⟨_, rfl⟩
    obtain ⟨J, hJ⟩ : ∃ J, J = x.toNat - 38 := ⟨_, rfl⟩
    rw [← hK, ← hJ]
    have pK := p10 K
    have cK : 10 ^ K ≤ c * 10 ^ K := Nat.le_mul_of_pos_left _ (Nat.pos_of_ne_zero c0)
    have cU : c * 10 ^ K + 10 ^ K ≤ 10 ^ (34 + K) := by
      rw [Nat.pow_add, ← Nat.succ_mul]
      exact Nat.mul_le_mul_right _ c34
    have key : ∀ (s : Bool) (N : Nat) (more : Bool), N ≤ c * 10 ^ K + 1 → (6110 ≤ x → N / 10 ^ 38 < 10 ^ 34 - 1 ∨ (N / 10 ^ 38 < 10 ^ 34 ∧ upN 1 s N 38 more = false)) → ∃ r, fitF 1 s N more (x - (K : Int)) = some r := by
      intro s N more bN tp
      have nN : nd N ≤ 35 + K := nd_le (by
        have : 10 ^ (35 + K) = 10 * 10 ^ (34 + K) := by rw [show 35 + K = 34 + K + 1 by omega, Nat.pow_succ, Nat.mul_comm]
        omega)
      unfold fitF
      have em : min (x - (K : Int)) 6145 = x - (K : Int) := by omega
      have es : surp N (x - (K : Int)) = nd N - 34 := by unfold surp; omega
      rw [em, es]
      by_cases big : 6110 ≤ x
      · have k38 : K = 38 := by omega
        subst k38
        by_cases sp : nd N - 34 ≤ 37
        · exact fitT_ok (.inl (by omega))
        · by_cases sq : nd N - 34 = 38
          · refine fitT_ok (.inr ⟨by omega, ?_⟩)
            rw [sq]
            rcases tp big with t | ⟨t, u⟩
            · have := (upN_le 1 s N 38 more).2
              rw [show min 38 78 = 38 from rfl] at this
              omega
            · unfold cutN
              rw [u, show min 38 78 = 38 from rfl]
              simp only [Bool.false_eq_true, if_false]
              omega
          · exfalso
            have : 10 ^ 72 ≤ N := by
              have q : nd N = 73 := by omega
              have nz : N ≠ 0 := by intro k; rw [k, nd_zero] at q; omega
              have := nd_min nz
              rw [q] at this
              exact this
            rcases tp big with t | ⟨t, -⟩
            · have : 10 ^ 34 ≤ N / 10 ^ 38 := by
                rw [Nat.le_div_iff_mul_le (p10 38), ← Nat.pow_add]
                exact this
              omega
            · have : 10 ^ 34 ≤ N / 10 ^ 38 := by
                rw [Nat.le_div_iff_mul_le (p10 38), ← Nat.pow_add]
                exact this
              omega
      · exact fitT_ok (.inl (by omega))
    have l1 : 1 / 10 ^ J ≤ 1 := Nat.div_le_self _ _
    have lJ : 6110 ≤ x → 1 / 10 ^ J = 0 ∧ decide (1 % 10 ^ J ≠ 0) = true := by
      intro big
      have : 10 ^ 1 ≤ 10 ^ J := p10_mono (by omega)
      rw [Nat.div_eq_of_lt (by omega), Nat.mod_eq_of_lt (by omega)]
      exact ⟨rfl, rfl⟩
    unfold fitS
    cases n
    · rw [if_pos rfl]
      refine key false (c * 10 ^ K + 1 / 10 ^ J) (decide (1 % 10 ^ J ≠ 0)) (by omega) (fun big => .inr ?_)
      obtain ⟨e1, e2⟩ := lJ big
      have k38 : K = 38 := by omega
      rw [e1, e2, k38, Nat.add_zero, Nat.mul_div_cancel _ (p10 38)]
      refine ⟨c34, ?_⟩
      unfold upN dropD dropM goUp
      rw [show min 38 78 = 38 from rfl, if_neg (show ¬ 38 = 0 by decide), show 38 - 1 = 37 from rfl]
      have q : c * 10 ^ 38 / 10 ^ 37 % 10 = 0 := by
        rw [show 10 ^ 38 = 10 * 10 ^ 37 by decide, ← Nat.mul_assoc, Nat.mul_div_cancel _ (p10 37)]
        exact Nat.mul_mod_left _ _
      rw [q]
      rfl
    · rw [if_neg (by decide), if_neg (by omega)]
      refine key true (c * 10 ^ K - 1 / 10 ^ J - (if 1 % 10 ^ J ≠ 0 then 1 else 0)) (decide (1 % 10 ^ J ≠ 0)) (Nat.le_trans (Nat.sub_le _ _) (Nat.le_trans (Nat.sub_le _ _) (Nat.le_succ _))) (fun big => ?_)
      obtain ⟨e1, e2⟩ := lJ big
      have k38 : K = 38 := by omega
      have m1 : 1 % 10 ^ J ≠ 0 := by simpa using e2
      subst k38
      left
      show (c * 10 ^ 38 - 1 / 10 ^ J - (if 1 % 10 ^ J ≠ 0 then 1 else 0)) / 10 ^ 38 < _
      rw [e1, if_pos m1, Nat.sub_zero]
      have : (c * 10 ^ 38 - 1) / 10 ^ 38 < c := by
        rw [Nat.div_lt_iff_lt_mul (p10 38)]
        omega
      omega
end Go.Proofs.YtkkddflclakphaaDoor
