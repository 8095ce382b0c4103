/-
  Days of the calendar, plainly: months' and years' beginnings, a day's number, the year of a number.
-/
import Derived.Test.YtkkddflclakphaaDoorCa
namespace Go.Proofs.YtkkddflclakphaaDoor

/-- How many days of a year lie ahead of a month. -/
def cumI (y m : Int) : Int := if m = 1 then 0 else if m = 2 then 31 else (if leapB y then 1 else 0) + (if m = 3 then 59 else if m = 4 then 90 else if m = 5 then 120 else if m = 6 then 151 else if m = 7 then 181 else if m = 8 then 212 else if m = 9 then 243 else if m = 10 then 273 else if m = 11 then 304 else if m = 12 then 334 else 365)
theorem cum_step (y : Int) {m : Int} (h1 : 1 ≤ m) (h2 : m ≤ 12) : cumI y (m + 1) = cumI y m + lenI y m := by
  rcases months_cases h1 h2 with rfl | rfl | rfl | rfl | rfl | rfl | rfl | rfl | rfl | rfl | rfl | rfl
  all_goals
    unfold cumI lenI
    generalize leapB y = l
    cases l <;> decide
theorem cum_end (y : Int) : cumI y 13 = ylen y := by
  unfold cumI ylen
  generalize leapB y = l
  cases l <;> decide
theorem cum_one (y : Int) : cumI y 1 = 0 := rfl
theorem cum_range (y : Int) {m : Int} (h1 : 1 ≤ m) (h2 : m ≤ 13) : 0 ≤ cumI y m ∧ cumI y m ≤ 366 := by
  have : m = 13 ∨ m ≤ 12 := by omega
  rcases this with rfl | h
  · rw [cum_end]; unfold ylen; split <;> omega
  · rcases months_cases h1 h with rfl | rfl | rfl | rfl | rfl | rfl | rfl | rfl | rfl | rfl | rfl | rfl
    all_goals
      unfold cumI
      generalize leapB y = l
      cases l <;> decide
theorem cum_lt (y : Int) {m k : Int} (h1 : 1 ≤ m) (h2 : k ≤ 13) (h : m < k) : cumI y m + lenI y m ≤ cumI y k := by
  obtain ⟨n, hn⟩ : ∃ n : Nat, k = m + 1 + n := ⟨(k - (m + 1)).toNat, by omega⟩
  subst hn
  induction n with
  | zero => rw [show m + 1 + ((0 : Nat) : Int) = m + 1 from by omega, cum_step y h1 (by omega)]; exact Int.le_refl _
  | succ n ih =>
    have := ih (by omega) (by omega)
    rw [show m + 1 + ((n + 1 : Nat) : Int) = m + 1 + (n : Int) + 1 from by omega, cum_step y (by omega) (by omega)]
    have := (lenI_range y (m + 1 + (n : Int))).1
    omega
theorem cum_len (y : Int) {m : Int} (h1 : 1 ≤ m) (h2 : m ≤ 12) : cumI y m + lenI y m ≤ ylen y := by
  rw [← cum_end]
  exact cum_lt y h1 (by decide) (by omega)

/-- There is that day. -/
def Day (y m d : Int) : Prop := (-999999999 ≤ y ∧ y ≤ 999999999) ∧ (1 ≤ m ∧ m ≤ 12) ∧ (1 ≤ d ∧ d ≤ lenI y m)
/-- A day's place in its year; its number. -/
def ydI (y m d : Int) : Int := d + cumI y m
def numI (y m d : Int) : Int := yst y + ydI y m d - 1
theorem Day.yr {y m d : Int} (h : Day y m d) : Yr y ∧ Yr (y - 1) ∧ Yr (y + 1) := by obtain ⟨⟨_, _⟩, -⟩ := h; unfold Yr; omega
theorem Day.yd {y m d : Int} (h : Day y m d) : 1 ≤ ydI y m d ∧ ydI y m d ≤ ylen y := by
  obtain ⟨-, ⟨h1, h2⟩, h3, h4⟩ := h
  have a := cum_len y h1 h2
  have b := (cum_range y h1 (by omega)).1
  unfold ydI
  omega
theorem ylen_two (y : Int) : 365 ≤ ylen y ∧ ylen y ≤ 366 := by unfold ylen; split <;> omega
theorem leap_true {y : Int} : leapB y = true ↔ (y % 4 = 0 ∧ y % 100 ≠ 0) ∨ y % 400 = 0 := by
  unfold leapB
  simp only [Bool.or_eq_true, Bool.and_eq_true, beq_iff_eq, Bool.not_eq_true', beq_eq_false_iff_ne, ne_eq]
theorem yst_step (y : Int) : yst (y + 1) = yst y + ylen y := by
  unfold ylen
  by_cases h : leapB y = true
  · rw [if_pos h]
    have := leap_true.1 h
    unfold yst lups
    omega
  · rw [if_neg h]
    have : ¬ ((y % 4 = 0 ∧ y % 100 ≠ 0) ∨ y % 400 = 0) := fun k => h (leap_true.2 k)
    unfold yst lups
    omega
theorem yst_mono {a b : Int} (h : a ≤ b) : yst a ≤ yst b := by
  unfold yst lups
  omega
theorem yst_lt {a b : Int} (h : yst a < yst b) : a < b := by
  rcases Int.lt_or_le a b with k | k
  · exact k
  · have := yst_mono k; omega
theorem num_year {y m d : Int} (h : Day y m d) : yst y ≤ numI y m d ∧ numI y m d < yst (y + 1) := by
  have := h.yd
  rw [yst_step]
  unfold numI
  omega
/-- The year of a number is one. -/
theorem year_one {n y z : Int} (h1 : yst y ≤ n) (h2 : n < yst (y + 1)) (h3 : yst z ≤ n) (h4 : n < yst (z + 1)) : y = z := by
  have a := yst_lt (show yst y < yst (z + 1) by omega)
  have b := yst_lt (show yst z < yst (y + 1) by omega)
  omega
/-- By the mean length of the years the guess is off by one year at most. -/
theorem year_guess (n : Int) : yst (1970 + 400 * n / 146097 - 1) ≤ n ∧ n < yst (1970 + 400 * n / 146097 + 2) := by
  generalize hq : 400 * n / 146097 = q
  have h1 : 146097 * q ≤ 400 * n := by omega
  have h2 : 400 * n < 146097 * q + 146097 := by omega
  clear hq
  unfold yst lups
  constructor <;> omega
theorem first_day : yst (-999999999) = -365243219162 := by decide
theorem last_day : yst 1000000000 = 365241780472 := by decide
/-- The days are those whose numbers the years let be. -/
theorem num_in {y m d : Int} (h : Day y m d) : -365243219162 ≤ numI y m d ∧ numI y m d < 365241780472 := by
  have := num_year h
  have a := yst_mono (show -999999999 ≤ y from h.1.1)
  have b := yst_mono (show y + 1 ≤ 1000000000 by have := h.1.2; omega)
  rw [first_day] at a
  rw [last_day] at b
  omega
theorem year_in {n y : Int} (h1 : -365243219162 ≤ n) (h2 : n < 365241780472) (h3 : yst y ≤ n) (h4 : n < yst (y + 1)) : -999999999 ≤ y ∧ y ≤ 999999999 := by
  rw [← first_day] at h1
  rw [← last_day] at h2
  have a := yst_lt (show yst (-999999999) < yst (y + 1) by omega)
  have b := yst_lt (show yst y < yst 1000000000 by omega)
  omega
/-- Two days of one number are one. -/
theorem num_inj {y m d z k e : Int} (h : Day y m d) (h' : Day z k e) (e1 : numI y m d = numI z k e) : y = z ∧ m = k ∧ d = e := by
  have a := num_year h
  have b := num_year h'
  obtain rfl : y = z := year_one a.1 a.2 (by omega) (by omega)
  have c : ydI y m d = ydI y k e := by unfold numI at e1; omega
  unfold ydI at c
  obtain ⟨-, ⟨h1, h2⟩, h3, h4⟩ := h
  obtain ⟨-, ⟨k1, k2⟩, k3, k4⟩ := h'
  rcases Int.lt_trichotomy m k with q | q | q
  · have := cum_lt y h1 (by omega) q; omega
  · subst q; exact ⟨rfl, rfl, by omega⟩
  · have := cum_lt y k1 (by omega) q; omega
/-- The order of days is that of their numbers. -/
theorem num_lt {y m d z k e : Int} (h : Day y m d) (h' : Day z k e) : numI y m d < numI z k e ↔ y < z ∨ y = z ∧ (m < k ∨ m = k ∧ d < e) := by
  have a := num_year h
  have b := num_year h'
  rcases Int.lt_trichotomy y z with q | q | q
  · have := yst_mono (show y + 1 ≤ z by omega)
    exact ⟨fun _ => .inl q, fun _ => by omega⟩
  · subst q
    have key : ydI y m d < ydI y k e ↔ m < k ∨ m = k ∧ d < e := by
      obtain ⟨-, ⟨h1, h2⟩, h3, h4⟩ := h
      obtain ⟨-, ⟨k1, k2⟩, k3, k4⟩ := h'
      unfold ydI
      rcases Int.lt_trichotomy m k with q | q | q
      · have := cum_lt y h1 (by omega) q; omega
      · subst q; omega
      · have := cum_lt y k1 (by omega) q; omega
    unfold numI
    constructor
    · intro g; exact .inr ⟨rfl, key.1 (by omega)⟩
    · rintro (g | ⟨-, g⟩)
      · omega
      · have := key.2 g; omega
  · have := yst_mono (show z + 1 ≤ y by omega)
    constructor
    · intro g; omega
    · rintro (g | ⟨g, -⟩) <;> omega
end Go.Proofs.YtkkddflclakphaaDoor
