/-
  What is left of whole numbers by plain arithmetic: a quotient of numbers of up to eight digits is nearer to itself than to the next whole number; its floor; the rest; no program is spoken of.
-/
import Derived.Test.YtkkddflclakphaaDoorPn
namespace Go.Proofs.YtkkddflclakphaaDoor

/-- A whole number as a number. -/
def intD (z : Int) : Bool × Nat × Int := (decide (z < 0), z.natAbs, 0)
theorem szN_mul (c : Nat) : szN c 0 = c * szN 1 0 := by unfold szN; rw [Nat.one_mul]
theorem fit_int {s : Bool} {N : Nat} {Z : Int} (h : N < 10 ^ 34) (e : Z = if s then -(N : Int) else (N : Int)) : fitF 1 s N false 0 = some (intD Z) := by
  by_cases z : N = 0
  · subst z
    have : Z = 0 := by rw [e]; cases s <;> rfl
    subst this
    rw [fit_zero]
    exact fitF_self ⟨by decide, by decide, by decide⟩ (fun _ => rfl)
  · rw [fitF_self ⟨h, by decide, by decide⟩ (fun k => absurd k z)]
    unfold intD
    cases s
    · simp only [Bool.false_eq_true, if_false] at e
      rw [decide_eq_false (show ¬ Z < 0 by omega), show Z.natAbs = N by omega]
    · simp only [if_true] at e
      rw [decide_eq_true (show Z < 0 by omega), show Z.natAbs = N by omega]
theorem mulI {A B : Int} (h : A.natAbs * B.natAbs < 10 ^ 34) : mulF (decide (A < 0)) A.natAbs 0 (decide (B < 0)) B.natAbs 0 = some (intD (A * B)) := by
  unfold mulF
  refine fit_int h ?_
  by_cases a : A < 0 <;> by_cases b : B < 0
  · rw [decide_eq_true a, decide_eq_true b, show (true != true) = false from rfl]
    simp only [Bool.false_eq_true, if_false]
    rw [Int.natCast_mul, Int.ofNat_natAbs_of_nonpos (by omega), Int.ofNat_natAbs_of_nonpos (by omega), Int.neg_mul_neg]
  · rw [decide_eq_true a, decide_eq_false b, show (true != false) = true from rfl]
    simp only [if_true]
    rw [Int.natCast_mul, Int.ofNat_natAbs_of_nonpos (by omega), Int.natAbs_of_nonneg (by omega), Int.neg_mul, Int.neg_neg]
  · rw [decide_eq_false a, decide_eq_true b, show (false != true) = true from rfl]
    simp only [if_true]
    rw [Int.natCast_mul, Int.ofNat_natAbs_of_nonpos (show B ≤ 0 by omega), Int.natAbs_of_nonneg (by omega), Int.mul_neg, Int.neg_neg]
  · rw [decide_eq_false a, decide_eq_false b, show (false != false) = false from rfl]
    simp only [Bool.false_eq_true, if_false]
    rw [Int.natCast_mul, Int.natAbs_of_nonneg (show 0 ≤ A by omega), Int.natAbs_of_nonneg (show 0 ≤ B by omega)]
theorem addI {A B : Int} (hA : A.natAbs < 10 ^ 33) (hB : B.natAbs < 10 ^ 33) : addF (decide (A < 0)) A.natAbs 0 (decide (B < 0)) B.natAbs 0 = some (intD (A + B)) := by
  have l34 : 10 ^ 33 + 10 ^ 33 < 10 ^ 34 := by decide
  unfold addF sumF
  rw [if_neg (by omega)]
  unfold sumH
  simp only [Int.sub_self, Int.toNat_zero, Nat.zero_min, Nat.pow_zero, Nat.mul_one, Nat.zero_sub, Nat.div_one, Nat.mod_one]
  by_cases a0 : A.natAbs = 0
  · rw [if_pos a0]
    refine (fit_int (by omega) ?_ : fitF 1 (decide (B < 0)) B.natAbs false 0 = _)
    by_cases b : B < 0
    · rw [decide_eq_true b]; simp only [if_true]; omega
    · rw [decide_eq_false b]; simp only [Bool.false_eq_true, if_false]; omega
  · rw [if_neg a0]
    by_cases s : decide (A < 0) = decide (B < 0)
    · rw [if_pos s]
      refine (fit_int (by omega) ?_ : fitF 1 (decide (A < 0)) (A.natAbs + B.natAbs) false 0 = _)
      have ab : A < 0 ↔ B < 0 := decide_eq_decide.mp s
      by_cases b : A < 0
      · rw [decide_eq_true b]; simp only [if_true]; omega
      · rw [decide_eq_false b]; simp only [Bool.false_eq_true, if_false]; omega
    · rw [if_neg s]
      have ab : ¬ (A < 0 ↔ B < 0) := fun k => s (decide_eq_decide.mpr k)
      by_cases lt : A.natAbs < B.natAbs
      · rw [if_pos lt]
        refine (fit_int (by omega) ?_ : fitF 1 (decide (B < 0)) (B.natAbs - A.natAbs) false 0 = _)
        by_cases b : B < 0
        · rw [decide_eq_true b]; simp only [if_true]; omega
        · rw [decide_eq_false b]; simp only [Bool.false_eq_true, if_false]; omega
      · rw [if_neg lt]
        simp only [ne_eq, not_true_eq_false, if_false, decide_false, Nat.sub_zero]
        refine (fit_int (by omega) ?_ : fitF 1 (decide (A < 0)) (A.natAbs - B.natAbs) false 0 = _)
        by_cases b : A < 0
        · rw [decide_eq_true b]; simp only [if_true]; omega
        · rw [decide_eq_false b]; simp only [Bool.false_eq_true, if_false]; omega
/-- What is fitted is near. -/
theorem fit_close {s : Bool} {Q : Nat} {more : Bool} {P : Nat} (q1 : 1000 < Q) (q2 : Q < 10 ^ 36) (hP : P ≤ 60) : ∃ c x, fitF 1 s Q more (-(P : Int)) = some (s, c, x) ∧ NumD c x ∧ ∃ E, szN c x = E * 10 ^ (6176 - P) ∧ Q < E + 101 ∧ E < Q + 101 := by
  have qB : Q < B128 * B128 := Nat.lt_of_lt_of_le q2 (by unfold B128; decide)
  have n36 : nd Q ≤ 36 := nd_le q2
  have es : surp Q (-(P : Int)) = nd Q - 34 := by unfold surp; omega
  obtain ⟨k, hk⟩ : ∃ k, k = nd Q - 34 := ⟨_, rfl⟩
  have k2 : k ≤ 2 := by omega
  obtain ⟨⟨s', c, x⟩, hr⟩ : ∃ r, fitF 1 s Q more (-(P : Int)) = some r := by
    unfold fitF
    rw [show min (-(P : Int)) 6145 = -(P : Int) by omega, es]
    exact fitT_ok (.inl (by omega))
  have u := upN_le 1 s Q k more
  rw [show min k 78 = k by omega] at u
  have pk : 10 ^ k ≤ 10 ^ 2 := p10_mono k2
  have d1 := Nat.div_add_mod Q (10 ^ k)
  have d2 := Nat.mod_lt Q (p10 k)
  have d3 : 0 < Q / 10 ^ k := Nat.div_pos (by omega) (p10 k)
  have e1 : cutN 1 s Q k more * 10 ^ k < Q + 101 ∧ Q < cutN 1 s Q k more * 10 ^ k + 101 := by
    have a := Nat.mul_le_mul_left (10 ^ k) u.1
    have b := Nat.mul_le_mul_left (10 ^ k) u.2
    rw [Nat.mul_add, Nat.mul_one] at b
    rw [Nat.mul_comm (cutN 1 s Q k more)]
    generalize 10 ^ k * cutN 1 s Q k more = X at *
    generalize 10 ^ k * (Q / 10 ^ k) = Y at *
    omega
  rcases fitF_some hr qB with ⟨z, _⟩ | ⟨_, rfl, _, num, _, sz⟩
  · rw [es, ← hk] at z
    omega
  · refine ⟨c, x, hr, num, cutN 1 s' Q k more * 10 ^ k, ?_, e1.2, e1.1⟩
    rw [sz, es, ← hk]
    unfold szN
    rw [Nat.mul_assoc, ← Nat.pow_add]
    congr 2
    omega
/-- A quotient that is no whole number lies between two, and so does what is fitted of it. -/
theorem div_near {sa sb : Bool} {N M : Nat} {o : Option (Bool × Nat × Int)} (hN : N < 10 ^ 10) (hM : M < 10 ^ 8) (zM : M ≠ 0) (rem : N % M ≠ 0) (D : DivP sa N 0 sb M 0 o) :
    ∃ c x, o = some (sa != sb, c, x) ∧ NumD c x ∧ szN (N / M) 0 < szN c x ∧ szN c x < szN (N / M + 1) 0 := by
  have zN : N ≠ 0 := by intro k; rw [k, Nat.zero_mod] at rem; exact rem rfl
  rcases D with ⟨z, _⟩ | ⟨_, z, _⟩ | ⟨_, _, Q, R, hR, hQ, D⟩
  · exact absurd z zM
  · exact absurd z zN
  have nN := nd_le hN
  have nM := nd_le hM
  have nN1 : 1 ≤ nd N := by have := nd_pos zN; omega
  have nM1 : 1 ≤ nd M := by have := nd_pos zM; omega
  obtain ⟨P, hP⟩ : ∃ P : Nat, P = 35 + nd M - nd N := ⟨_, rfl⟩
  have pl : plD N M = (P : Int) := by unfold plD; omega
  have hQ' : Q * (M * 10 ^ (34 - nd M)) + R = N * 10 ^ P * 10 ^ (34 - nd M) := by
    rw [hQ, Nat.mul_assoc, Nat.mul_assoc, ← Nat.pow_add, ← Nat.pow_add]
    congr 2
    omega
  have U0 := p10 (34 - nd M)
  have lo : N * 10 ^ P < (Q + 1) * M := by
    have : N * 10 ^ P * 10 ^ (34 - nd M) < (Q + 1) * M * 10 ^ (34 - nd M) := by
      rw [← hQ', Nat.mul_assoc (Q + 1), Nat.add_mul, Nat.one_mul]
      omega
    exact Nat.lt_of_mul_lt_mul_right this
  have hi : Q * M ≤ N * 10 ^ P := by
    have : Q * M * 10 ^ (34 - nd M) ≤ N * 10 ^ P * 10 ^ (34 - nd M) := by
      rw [← hQ', Nat.mul_assoc Q]
      omega
    exact Nat.le_of_mul_le_mul_right this U0
  have q36 : Q < 10 ^ 36 := by
    have a : Q * 10 ^ (nd M - 1) ≤ Q * M := Nat.mul_le_mul_left _ (nd_min zM)
    have b : N * 10 ^ P < 10 ^ nd N * 10 ^ P := Nat.mul_lt_mul_of_pos_right (nd_lt N) (p10 P)
    rw [← Nat.pow_add, show nd N + P = 36 + (nd M - 1) by omega, Nat.pow_add] at b
    exact Nat.lt_of_mul_lt_mul_right (Nat.lt_of_le_of_lt (Nat.le_trans a hi) b)
  have M0 : 0 < M := Nat.pos_of_ne_zero zM
  have dm := Nat.div_add_mod N M
  have rl := Nat.mod_lt N M0
  obtain ⟨t, ht⟩ : ∃ t, t = N / M := ⟨_, rfl⟩
  rw [← ht] at dm ⊢
  have big : M * 10001 ≤ 10 ^ P := Nat.le_trans (Nat.mul_le_mul_right _ (Nat.le_of_lt hM)) (Nat.le_trans (show 10 ^ 8 * 10001 ≤ 10 ^ 26 by decide) (p10_mono (by omega)))
  have x1 : t * 10 ^ P + 10000 < Q := by
    have e : M * (t * 10 ^ P + 10001) ≤ N * 10 ^ P := by
      rw [← dm, Nat.add_mul, Nat.mul_add, Nat.mul_assoc]
      have : 10 ^ P ≤ N % M * 10 ^ P := Nat.le_mul_of_pos_left _ (by omega)
      omega
    have : M * (t * 10 ^ P + 10001) < M * (Q + 1) := by rw [Nat.mul_comm M (Q + 1)]; exact Nat.lt_of_le_of_lt e lo
    have := Nat.lt_of_mul_lt_mul_left this
    omega
  have x2 : Q + 10001 ≤ (t + 1) * 10 ^ P := by
    have e : N * 10 ^ P + M * 10001 ≤ M * ((t + 1) * 10 ^ P) := by
      have a : N * 10 ^ P + 10 ^ P ≤ M * ((t + 1) * 10 ^ P) := by
        rw [← Nat.mul_assoc, ← Nat.succ_mul]
        refine Nat.mul_le_mul_right _ ?_
        rw [Nat.mul_add, Nat.mul_one]
        omega
      omega
    have : M * (Q + 10001) ≤ M * ((t + 1) * 10 ^ P) := by
      rw [Nat.mul_add, Nat.mul_comm M Q]
      omega
    exact Nat.le_of_mul_le_mul_left this M0
  -- what is in steps of 10^-P
  have fin : ∀ {c : Nat} {x : Int} {E : Nat}, szN c x = E * 10 ^ (6176 - P) → t * 10 ^ P < E → E < (t + 1) * 10 ^ P → szN t 0 < szN c x ∧ szN c x < szN (t + 1) 0 := by
    intro c x E e a b
    have k : ∀ q, szN q 0 = q * 10 ^ P * 10 ^ (6176 - P) := by
      intro q
      unfold szN
      rw [Nat.mul_assoc, ← Nat.pow_add]
      congr 2
      omega
    rw [k, k, e]
    exact ⟨Nat.mul_lt_mul_of_pos_right a (p10 _), Nat.mul_lt_mul_of_pos_right b (p10 _)⟩
  have tP : 0 ≤ t * 10 ^ P := Nat.zero_le _
  rcases D with ⟨_, k⟩ | ⟨_, q, j, j1, j2, _, k⟩
  · rw [pl, show (0 : Int) - 0 - (P : Int) = -(P : Int) by omega] at k
    obtain ⟨c, x, e, num, E, sz, a, b⟩ := fit_close (s := sa != sb) (Q := Q) (more := true) (P := P) (by omega) q36 (by omega)
    exact ⟨c, x, k.trans e, num, fin sz (by omega) (by omega)⟩
  · rw [pl] at k j1
    have j1' : j ≤ P := by omega
    rw [show (0 : Int) - 0 - (P : Int) + (j : Int) = -((P - j : Nat) : Int) by omega] at k
    by_cases n34 : nd q ≤ 34
    · have q34 : q < 10 ^ 34 := Nat.lt_of_lt_of_le (nd_lt q) (p10_mono n34)
      have q0 : q ≠ 0 := by intro z; rw [z, Nat.zero_mul] at j2; omega
      rw [fitF_self ⟨q34, by omega, by omega⟩ (fun z => absurd z q0)] at k
      refine ⟨q, _, k, ⟨q34, by omega, by omega⟩, fin (E := Q) ?_ (by omega) (by omega)⟩
      rw [← j2]
      unfold szN
      rw [Nat.mul_assoc, ← Nat.pow_add]
      congr 2
      omega
    · have q34 : 10 ^ 34 ≤ q := by
        have q0 : q ≠ 0 := by intro z; rw [z, nd_zero] at n34; omega
        exact Nat.le_trans (p10_mono (by omega)) (nd_min q0)
      have jl : j ≤ 1 := by
        rcases Nat.lt_or_ge 1 j with z | z
        · exfalso
          have : 10 ^ 34 * 10 ^ 2 ≤ q * 10 ^ j := Nat.mul_le_mul q34 (p10_mono z)
          rw [j2, ← Nat.pow_add] at this
          omega
        · exact z
      have qQ : q ≤ Q := by rw [← j2]; exact Nat.le_mul_of_pos_right q (p10 j)
      obtain ⟨c, x, e, num, E, sz, a, b⟩ := fit_close (s := sa != sb) (Q := q) (more := false) (P := P - j) (Nat.lt_of_lt_of_le (by decide) q34) (by omega) (by omega)
      have pj : 10 ^ j ≤ 10 ^ 1 := p10_mono jl
      have pj0 := p10 j
      refine ⟨c, x, k.trans e, num, fin (E := E * 10 ^ j) ?_ ?_ ?_⟩
      · rw [sz, Nat.mul_assoc, ← Nat.pow_add]
        congr 2
        omega
      · have : q * 10 ^ j < (E + 101) * 10 ^ j := Nat.mul_lt_mul_of_pos_right a pj0
        rw [j2, Nat.add_mul] at this
        omega
      · have : E * 10 ^ j < (q + 101) * 10 ^ j := Nat.mul_lt_mul_of_pos_right b pj0
        rw [Nat.add_mul, j2] at this
        omega
/-- The floor of what lies between two whole numbers. -/
theorem floor_between {s : Bool} {c : Nat} {x : Int} {t : Nat} (h : NumD c x) (a : szN t 0 < szN c x) (b : szN c x < szN (t + 1) 0) : rwF 6 s c x = intD (if s then -((t : Int) + 1) else (t : Int)) := by
  have U0 := szN_one
  have c0 : c ≠ 0 := by intro k; rw [k, szN_zero] at a; omega
  have x0 : x < 0 := by
    by_cases k : x < 0
    · exact k
    · exfalso
      rw [szN_down (show -6176 ≤ (0 : Int) by decide) (show 0 ≤ x by omega)] at a b
      have a := szN_lt.1 a
      have b := szN_lt.1 b
      omega
  obtain ⟨⟨s2, N2, y⟩, e⟩ : ∃ t, rwF 6 s c x = t := ⟨_, rfl⟩
  obtain ⟨rfl, -, z, le, lt⟩ := floor_near h (fun k => absurd k c0) x0 e
  rw [e]
  rw [szN_mul] at a
  rw [szN_mul] at b
  obtain ⟨Z, hZ⟩ : ∃ Z : Int, Z = if s2 then -(N2 : Int) else (N2 : Int) := ⟨_, rfl⟩
  have vZ : vlZ s2 N2 0 = Z * (szN 1 0 : Int) := by
    unfold vlZ
    rw [szN_mul N2, hZ, Int.natCast_mul]
    cases s2
    · rfl
    · simp only [if_true]; rw [Int.neg_mul]
  rw [vZ] at le lt
  have a' : (t : Int) * (szN 1 0 : Int) < (szN c x : Int) := by rw [← Int.natCast_mul]; exact Int.ofNat_lt.2 a
  have b' : (szN c x : Int) < ((t : Int) + 1) * (szN 1 0 : Int) := by
    have : ((t : Int) + 1) * (szN 1 0 : Int) = (((t + 1) * szN 1 0 : Nat) : Int) := by rw [Int.natCast_mul]; rfl
    rw [this]; exact Int.ofNat_lt.2 b
  have U1 : (0 : Int) < (szN 1 0 : Int) := by omega
  have key : Z = if s then -((t : Int) + 1) else (t : Int) := by
    unfold vlZ at le lt
    generalize (szN 1 0 : Int) = U at *
    generalize (szN c x : Int) = V at *
    cases s
    · simp only [Bool.false_eq_true, if_false] at le lt ⊢
      have k1 : Z * U < ((t : Int) + 1) * U := by omega
      have k2 : (t : Int) * U < (Z + 1) * U := by rw [Int.add_mul Z, Int.one_mul]; omega
      have k1 := Int.lt_of_mul_lt_mul_right k1 (by omega)
      have k2 := Int.lt_of_mul_lt_mul_right k2 (by omega)
      omega
    · simp only [if_true] at le lt ⊢
      have k1 : Z * U < (-(t : Int)) * U := by rw [Int.neg_mul]; omega
      have k2 : (-((t : Int) + 1)) * U < (Z + 1) * U := by rw [Int.add_mul Z, Int.one_mul, Int.neg_mul]; omega
      have k1 := Int.lt_of_mul_lt_mul_right k1 (by omega)
      have k2 := Int.lt_of_mul_lt_mul_right k2 (by omega)
      omega
  rw [← key]
  unfold intD
  by_cases n0 : N2 = 0
  · rw [z n0, n0]
    have : Z = 0 := by rw [hZ, n0]; cases s2 <;> rfl
    rw [this]; rfl
  · cases s2
    · simp only [Bool.false_eq_true, if_false] at hZ
      rw [decide_eq_false (show ¬ Z < 0 by omega), show Z.natAbs = N2 by omega]
    · simp only [if_true] at hZ
      rw [decide_eq_true (show Z < 0 by omega), show Z.natAbs = N2 by omega]
/-- The rest that the statement asks for. -/
def wantZ (n m : Int) : Int := if n.tmod m ≠ 0 ∧ decide (n.tmod m < 0) ≠ decide (m < 0) then n.tmod m + m else n.tmod m
/-- The quotient's floor, and the rest by it. -/
theorem quot_floor {n m : Int} {q : Option (Bool × Nat × Int)} (hn : n.natAbs < 10 ^ 8) (hm : m.natAbs < 10 ^ 8) (zm : m ≠ 0) (D : DivP (decide (n < 0)) n.natAbs 0 (decide (m < 0)) m.natAbs 0 q) :
    ∃ s c x Z, q = some (s, c, x) ∧ rwF 6 s c x = intD Z ∧ wantZ n m = n - m * Z ∧ Z.natAbs ≤ 10 ^ 8 := by
  obtain ⟨N, hN⟩ : ∃ N, N = n.natAbs := ⟨_, rfl⟩
  obtain ⟨M, hM⟩ : ∃ M, M = m.natAbs := ⟨_, rfl⟩
  have zM : M ≠ 0 := by omega
  have M0 : 0 < M := Nat.pos_of_ne_zero zM
  have dm := Nat.div_add_mod N M
  have rl := Nat.mod_lt N M0
  have tl : N / M ≤ N := Nat.div_le_self _ _
  have tm : n.tmod m = if n < 0 then -((N % M : Nat) : Int) else ((N % M : Nat) : Int) := by
    by_cases a : n < 0 <;> by_cases b : m < 0
    · rw [if_pos a, show n = -(N : Int) by omega, show m = -(M : Int) by omega, Int.tmod_neg, Int.neg_tmod]; rfl
    · rw [if_pos a, show n = -(N : Int) by omega, show m = (M : Int) by omega, Int.neg_tmod]; rfl
    · rw [if_neg a, show n = (N : Int) by omega, show m = -(M : Int) by omega, Int.tmod_neg]; rfl
    · rw [if_neg a, show n = (N : Int) by omega, show m = (M : Int) by omega]; rfl
  rw [← hN, ← hM] at D
  rw [← hN] at hn
  rw [← hM] at hm
  obtain ⟨t, ht⟩ : ∃ t, t = N / M := ⟨_, rfl⟩
  obtain ⟨r, hr⟩ : ∃ r, r = N % M := ⟨_, rfl⟩
  have mt : ((M * t : Nat) : Int) = (M : Int) * (t : Int) := Int.natCast_mul _ _
  by_cases r0 : N % M = 0
  · -- nothing is left
    have nt : N = t * M := by rw [ht, Nat.mul_comm]; omega
    have q1 : q = some (intD (if (decide (n < 0) != decide (m < 0)) then -(t : Int) else (t : Int))) := by
      by_cases n0 : N = 0
      · have t0 : t = 0 := by rw [ht, n0, Nat.zero_div]
        rw [t0]
        rcases D with ⟨k, _⟩ | ⟨_, _, k⟩ | ⟨_, k, _⟩
        · exact absurd k zM
        · rw [k]
          refine (fit_int (by decide) ?_ : fitF 1 false 0 false 0 = _)
          split <;> rfl
        · exact absurd n0 k
      · rw [DivP_mult D (Nat.lt_of_lt_of_le hn (by decide)) (Nat.lt_of_lt_of_le hm (by decide)) zM n0 nt]
        exact fit_int (by have : t ≤ N := by rw [ht]; exact tl
                          exact Nat.lt_of_le_of_lt this (Nat.lt_of_lt_of_le hn (by decide))) rfl
    refine ⟨_, _, _, _, q1, rwF_up (Int.le_refl 0), ?_, ?_⟩
    · have w0 : wantZ n m = 0 := by
        unfold wantZ
        rw [tm, r0]
        rw [if_neg (by intro k; apply k.1; split <;> rfl)]
        split <;> rfl
      rw [w0]
      have e1 : (N : Int) = (t : Int) * (M : Int) := by rw [nt, Int.natCast_mul]
      by_cases a : n < 0 <;> by_cases b : m < 0
      · rw [decide_eq_true a, decide_eq_true b, show (true != true) = false from rfl]
        simp only [Bool.false_eq_true, if_false]
        rw [show m = -(M : Int) by omega, Int.neg_mul, Int.mul_comm (M : Int)]
        omega
      · rw [decide_eq_true a, decide_eq_false b, show (true != false) = true from rfl]
        simp only [if_true]
        rw [show m = (M : Int) by omega, Int.mul_neg, Int.mul_comm (M : Int)]
        omega
      · rw [decide_eq_false a, decide_eq_true b, show (false != true) = true from rfl]
        simp only [if_true]
        rw [show m = -(M : Int) by omega, Int.neg_mul_neg, Int.mul_comm (M : Int)]
        omega
      · rw [decide_eq_false a, decide_eq_false b, show (false != false) = false from rfl]
        simp only [Bool.false_eq_true, if_false]
        rw [show m = (M : Int) by omega, Int.mul_comm (M : Int)]
        omega
    · rw [← ht] at tl
      split <;> omega
  · obtain ⟨c, x, e, num, a1, a2⟩ := div_near (Nat.lt_of_lt_of_le hn (by decide)) hm zM r0 D
    rw [← ht] at a1 a2
    refine ⟨_, c, x, _, e, floor_between num a1 a2, ?_, ?_⟩
    · unfold wantZ
      rw [tm]
      rw [← ht, ← hr] at dm
      rw [← hr] at r0 rl ⊢
      have e1 : (N : Int) = (M : Int) * (t : Int) + (r : Int) := by rw [← mt]; omega
      by_cases a : n < 0 <;> by_cases b : m < 0
      · rw [if_pos a, decide_eq_true a, decide_eq_true b, show (true != true) = false from rfl, decide_eq_true (show -((r : Nat) : Int) < 0 by omega)]
        simp only [Bool.false_eq_true, if_false, ne_eq, not_true_eq_false, and_false]
        rw [show m = -(M : Int) by omega, Int.neg_mul]
        omega
      · rw [if_pos a, decide_eq_true a, decide_eq_false b, show (true != false) = true from rfl, decide_eq_true (show -((r : Nat) : Int) < 0 by omega)]
        rw [if_pos ⟨by omega, by decide⟩]
        simp only [if_true]
        rw [show m = (M : Int) by omega, Int.mul_neg, Int.mul_add, Int.mul_one]
        omega
      · rw [if_neg a, decide_eq_false a, decide_eq_true b, show (false != true) = true from rfl, decide_eq_false (show ¬ ((r : Nat) : Int) < 0 by omega)]
        rw [if_pos ⟨by omega, by decide⟩]
        simp only [if_true]
        rw [show m = -(M : Int) by omega, Int.neg_mul_neg, Int.mul_add, Int.mul_one]
        omega
      · rw [if_neg a, decide_eq_false a, decide_eq_false b, show (false != false) = false from rfl, decide_eq_false (show ¬ ((r : Nat) : Int) < 0 by omega)]
        simp only [Bool.false_eq_true, if_false, ne_eq, not_true_eq_false, and_false]
        rw [show m = (M : Int) by omega]
        omega
    · rw [← ht] at tl
      split <;> omega
/-- What Modulo answers of whole numbers of up to eight digits. -/
theorem mod_int {n m : Int} {o : Option (Bool × Nat × Int)} (hn : n.natAbs < 10 ^ 8) (hm : m.natAbs < 10 ^ 8) (zm : m ≠ 0) (D : ModP (decide (n < 0)) n.natAbs 0 (decide (m < 0)) m.natAbs 0 o) : o = some (intD (wantZ n m)) := by
  obtain ⟨q, D, e⟩ := D
  obtain ⟨s, c, x, Z, rfl, hf, hw, bz⟩ := quot_floor hn hm zm D
  have bm : m.natAbs * Z.natAbs ≤ 10 ^ 8 * 10 ^ 8 := Nat.mul_le_mul (Nat.le_of_lt hm) bz
  rw [e, modQ_some _ _ _ (hf.trans rfl), mulI (Nat.lt_of_le_of_lt bm (by decide))]
  show modM _ _ _ (some (decide (m * Z < 0), (m * Z).natAbs, 0)) = _
  rw [modM_some]
  have sg : (!decide (m * Z < 0) && !decide ((m * Z).natAbs = 0)) = decide (-(m * Z) < 0) := by
    generalize m * Z = W
    by_cases a : W < 0
    · rw [decide_eq_true a, decide_eq_false (show ¬ -W < 0 by omega)]; rfl
    · by_cases b : W.natAbs = 0
      · rw [decide_eq_false a, decide_eq_true b, decide_eq_false (show ¬ -W < 0 by omega)]; rfl
      · rw [decide_eq_false a, decide_eq_false b, decide_eq_true (show -W < 0 by omega)]; rfl
  rw [sg, show (m * Z).natAbs = (-(m * Z)).natAbs by rw [Int.natAbs_neg]]
  rw [← Int.natAbs_mul] at bm
  rw [addI (Nat.lt_of_lt_of_le hn (by decide)) (by rw [Int.natAbs_neg]; exact Nat.lt_of_le_of_lt bm (by decide)), hw]
  rfl
end Go.Proofs.YtkkddflclakphaaDoor
