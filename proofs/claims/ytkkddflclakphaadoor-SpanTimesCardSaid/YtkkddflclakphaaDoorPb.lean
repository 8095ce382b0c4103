/-
  Sums of decimal numbers by plain arithmetic: either order, 0, and that a sum with something above 0 is not below.
-/
import Derived.Test.YtkkddflclakphaaDoorPa
namespace Go.Proofs.YtkkddflclakphaaDoor

/-- A sum before it is fitted, the exponent of the first one being not lower. -/
def sumH (na : Bool) (ca : Nat) (ea : Int) (nb : Bool) (cb : Nat) (eb : Int) : Bool × Nat × Int × Bool :=
  if ca = 0 then (nb, cb, eb, false)
  else
    if na = nb then (na, ca * 10 ^ min (ea - eb).toNat 38 + cb / 10 ^ ((ea - eb).toNat - 38), ea - ((min (ea - eb).toNat 38 : Nat) : Int), decide (cb % 10 ^ ((ea - eb).toNat - 38) ≠ 0))
    else if ca * 10 ^ min (ea - eb).toNat 38 < cb / 10 ^ ((ea - eb).toNat - 38) then
      (nb, cb / 10 ^ ((ea - eb).toNat - 38) - ca * 10 ^ min (ea - eb).toNat 38, ea - ((min (ea - eb).toNat 38 : Nat) : Int), false)
    else (na, ca * 10 ^ min (ea - eb).toNat 38 - cb / 10 ^ ((ea - eb).toNat - 38) - (if cb % 10 ^ ((ea - eb).toNat - 38) ≠ 0 then 1 else 0), ea - ((min (ea - eb).toNat 38 : Nat) : Int), decide (cb % 10 ^ ((ea - eb).toNat - 38) ≠ 0))
def sumF (na : Bool) (ca : Nat) (ea : Int) (nb : Bool) (cb : Nat) (eb : Int) : Bool × Nat × Int × Bool :=
  if ea < eb then sumH nb cb eb na ca ea else sumH na ca ea nb cb eb
def fitS (s : Bool × Nat × Int × Bool) : Option (Bool × Nat × Int) := fitF 1 s.1 s.2.1 s.2.2.2 s.2.2.1
def addF (na : Bool) (ca : Nat) (ea : Int) (nb : Bool) (cb : Nat) (eb : Int) : Option (Bool × Nat × Int) := fitS (sumF na ca ea nb cb eb)
def mulF (na : Bool) (ca : Nat) (ea : Int) (nb : Bool) (cb : Nat) (eb : Int) : Option (Bool × Nat × Int) := fitF 1 (na != nb) (ca * cb) false (ea + eb)

theorem fit_zero (m : Nat) (s : Bool) (x : Int) : fitF m s 0 false x = fitF m false 0 false x := by
  have e : ∀ s n, cutN m s 0 n false = 0 := by
    intro s n
    unfold cutN upN
    have : dropM 0 (min n 78) false = false := by unfold dropM; simp
    have d : dropD 0 (min n 78) = 0 := by unfold dropD; simp
    rw [this, d, goUp_none]
    simp
  unfold fitF
  rw [e, e]
  unfold fitT fitE
  simp

theorem sumH_bound {na nb : Bool} {ca cb : Nat} {ea eb : Int} (h1 : ca < 10 ^ 34) (h2 : cb < 10 ^ 34) : (sumH na ca ea nb cb eb).2.1 < B128 * B128 := by
  have l : ca * 10 ^ min (ea - eb).toNat 38 ≤ 10 ^ 72 := by
    have a : 10 ^ min (ea - eb).toNat 38 ≤ 10 ^ 38 := p10_mono (Nat.min_le_right _ _)
    exact Nat.le_trans (Nat.mul_le_mul (Nat.le_of_lt h1) a) (by decide)
  have d : cb / 10 ^ ((ea - eb).toNat - 38) ≤ 10 ^ 34 := Nat.le_trans (Nat.div_le_self _ _) (Nat.le_of_lt h2)
  have t : 10 ^ 72 + 10 ^ 34 < B128 * B128 := by unfold B128; decide
  unfold sumH
  generalize 10 ^ min (ea - eb).toNat 38 = P at *
  generalize cb / 10 ^ ((ea - eb).toNat - 38) = L at *
  generalize ca * P = H at *
  split
  · show cb < _
    exact Nat.lt_of_lt_of_le h2 (by unfold B128; decide)
  · split
    · show H + L < _
      exact Nat.lt_of_le_of_lt (Nat.add_le_add l d) t
    · split
      · show L - H < _
        exact Nat.lt_of_le_of_lt (Nat.le_trans (Nat.sub_le _ _) (Nat.le_trans d (by decide : 10 ^ 34 ≤ 10 ^ 72 + 10 ^ 34))) t
      · show H - L - _ < _
        exact Nat.lt_of_le_of_lt (Nat.le_trans (Nat.sub_le _ _) (Nat.le_trans (Nat.sub_le _ _) (Nat.le_trans l (by decide : 10 ^ 72 ≤ 10 ^ 72 + 10 ^ 34)))) t
theorem sumF_bound {na nb : Bool} {ca cb : Nat} {ea eb : Int} (h1 : ca < 10 ^ 34) (h2 : cb < 10 ^ 34) : (sumF na ca ea nb cb eb).2.1 < B128 * B128 := by
  unfold sumF
  split
  · exact sumH_bound h2 h1
  · exact sumH_bound h1 h2

/-- Sums may be taken in either order. -/
theorem addF_comm {na nb : Bool} {ca cb : Nat} {ea eb : Int} (za : ca = 0 → na = false) (zb : cb = 0 → nb = false) : addF na ca ea nb cb eb = addF nb cb eb na ca ea := by
  unfold addF sumF
  by_cases h : ea < eb
  · rw [if_pos h, if_neg (by omega)]
  · by_cases h' : eb < ea
    · rw [if_neg h, if_pos h']
    · have e : ea = eb := by omega
      subst e
      rw [if_neg h, if_neg h]
      unfold sumH
      simp only [Int.sub_self, Int.toNat_zero, Nat.zero_min, Nat.pow_zero, Nat.mul_one, Nat.zero_sub, Nat.div_one, Nat.mod_one]
      by_cases z1 : ca = 0
      · subst z1
        rw [za rfl]
        by_cases z2 : cb = 0
        · subst z2
          rw [zb rfl]
        · rw [if_pos rfl, if_neg z2]
          cases nb <;> simp
      · by_cases z2 : cb = 0
        · subst z2
          rw [zb rfl, if_neg z1, if_pos rfl]
          cases na <;> simp
        · rw [if_neg z1, if_neg z2]
          by_cases s : na = nb
          · subst s
            rw [if_pos rfl, if_pos rfl, Nat.add_comm]
          · have s' : ¬ nb = na := fun k => s k.symm
            rw [if_neg s, if_neg s']
            rcases Nat.lt_trichotomy ca cb with k | k | k
            · rw [if_pos k, if_neg (by omega)]; simp
            · subst k
              rw [if_neg (Nat.lt_irrefl ca), if_neg (Nat.lt_irrefl ca)]
              simp only [Nat.sub_self, ne_eq, not_true_eq_false, if_false, decide_false, fitS]
              rw [fit_zero 1 na, fit_zero 1 nb]
            · rw [if_neg (by omega), if_pos k]; simp
theorem mulF_comm {na nb : Bool} {ca cb : Nat} {ea eb : Int} : mulF na ca ea nb cb eb = mulF nb cb eb na ca ea := by
  unfold mulF
  rw [Nat.mul_comm, Int.add_comm, show (na != nb) = (nb != na) by cases na <;> cases nb <;> rfl]

theorem fit_zero_some {m : Nat} {s : Bool} {x : Int} (hx : -6176 ≤ x) : ∃ y, fitF m s 0 false x = some (false, 0, y) := by
  rw [fit_zero]
  unfold fitF
  have : cutN m false 0 (surp 0 (min x 6145)) false = 0 := by
    have : surp 0 (min x 6145) = 0 := by unfold surp; rw [nd_zero]; omega
    rw [this, cutN_zero]
  rw [this]
  unfold fitT fitE
  rw [if_neg (by decide), if_pos rfl]
  exact ⟨_, rfl⟩
/-- A number and 0 less it come to 0. -/
theorem addF_neg {na : Bool} {ca : Nat} {ea : Int} (h : NumD ca ea) (za : ca = 0 → na = false) : ∃ y, addF na ca ea (!na && !decide (ca = 0)) ca ea = some (false, 0, y) := by
  unfold addF sumF
  rw [if_neg (by omega)]
  unfold sumH
  by_cases z : ca = 0
  · rw [if_pos z, z, za z]
    exact fit_zero_some h.2.1
  · rw [if_neg z, decide_eq_false z]
    have s : ¬ na = (!na && !false) := by cases na <;> decide
    rw [if_neg s]
    simp only [Int.sub_self, Int.toNat_zero, Nat.zero_min, Nat.pow_zero, Nat.mul_one, Nat.zero_sub, Nat.div_one, Nat.mod_one]
    rw [if_neg (by omega)]
    simp only [Nat.sub_self, ne_eq, not_true_eq_false, if_false, decide_false, fitS]
    exact fit_zero_some (by have := h.2.1; simpa using this)
theorem mulF_one {na : Bool} {ca : Nat} {ea : Int} (h : NumD ca ea) (za : ca = 0 → na = false) : mulF na ca ea false 1 0 = some (na, ca, ea) := by
  unfold mulF
  rw [Nat.mul_one, Int.add_zero, show (na != false) = na by cases na <;> rfl]
  exact fitF_self h za
end Go.Proofs.YtkkddflclakphaaDoor
