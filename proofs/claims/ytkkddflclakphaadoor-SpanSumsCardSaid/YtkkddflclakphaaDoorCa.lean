/-
  Package civil: quotients rounded down (floorDiv; the reference's Floor), comparisons of ints, leap years, the lengths of months and years: each as a contract of its call.
-/
import Derived.Test.YtkkddflclakphaaDoorCo
namespace Go.Proofs.YtkkddflclakphaaDoor
open Go.RowKit

/-! ### Quotients, rounded down -/
set_option maxHeartbeats 400000 in
theorem floorDiv_any (a b : Int) (ha : I64 a) (hb : 0 < b) (hb' : I64 b) (w : World) :
    Calls Tryd.prog 55 #[.int .i64 a, .int .i64 b] w (Ret (.tuple #[.int .i64 (a / b), .int .i64 (a % b)]) w) := by
  have D := div_i64 ha hb hb'
  have u1 := (tdiv_i64 ha hb hb').1.wrap'
  have bz : b ≠ 0 := by omega
  by_cases h : a.tmod b < 0
  · obtain ⟨e1, e2⟩ := tdiv_down hb h
    have t1 : decide (a.tmod b < 0) = true := decide_eq_true h
    have u2 := D.1.wrap'
    have u3 := D.2.wrap'
    clear D ha hb hb' h
    go_enter Tryd.func55, Tryd.ntmps55
    go_wp2_with fail
    go_region
    all_goals
      go_wp2
      refine ret_via (fun _ => True) (fun VF _ => ?_) trivial rfl ⟨rfl, by go_grown⟩
      simp [results, Tryd.results55, go_sem, *]
  · obtain ⟨e1, e2⟩ := tdiv_same hb h
    have t1 : decide (a.tmod b < 0) = false := decide_eq_false h
    clear D ha hb hb' h
    rw [← e1, ← e2]
    clear e1 e2
    go_enter Tryd.func55, Tryd.ntmps55
    go_wp2_with fail
    go_region
    all_goals
      go_wp2
      refine ret_via (fun _ => True) (fun VF _ => ?_) trivial rfl ⟨rfl, by go_grown⟩
      simp [results, Tryd.results55, go_sem, *]
/-! ### Years and months -/
/-- Leap years. -/
def leapB (y : Int) : Bool := (y % 4 == 0 && !(y % 100 == 0)) || (y % 400 == 0)
theorem tmod_zero (y b : Int) : (y.tmod b == 0) = (y % b == 0) := by
  by_cases h : b ∣ y
  · rw [Int.tmod_eq_zero_of_dvd h, Int.emod_eq_zero_of_dvd h]
  · have a : y.tmod b ≠ 0 := fun e => h (Int.dvd_of_tmod_eq_zero e)
    have c : y % b ≠ 0 := fun e => h (Int.dvd_of_emod_eq_zero e)
    rw [beq_eq_false_iff_ne.2 a, beq_eq_false_iff_ne.2 c]
set_option maxHeartbeats 400000 in
theorem leap_any (y : Int) (w : World) : Calls Tryd.prog 77 #[.int .i64 y] w (Ret (.bool (leapB y)) w) := by
  have e1 := tmod_zero y 4
  have e2 := tmod_zero y 100
  have e3 := tmod_zero y 400
  unfold leapB
  rw [← e1, ← e2, ← e3]
  clear e1 e2 e3
  have key : ∀ p q r : Bool, (y.tmod 4 == 0) = p → (y.tmod 100 == 0) = q → (y.tmod 400 == 0) = r → Calls Tryd.prog 77 #[.int .i64 y] w (Ret (.bool ((p && !q) || r)) w) := by
    intro p q r hp hq hr
    have hp' : (!(y.tmod 4 == 0)) = !p := by rw [hp]
    cases p <;> cases q <;> cases r
    all_goals
      simp only [beq_eq_false_iff_ne, beq_iff_eq, ne_eq] at hp hq hr
      simp only [Bool.not_false, Bool.not_true] at hp'
      go_enter Tryd.func77, Tryd.ntmps77
      go_wp2
      go_ret
      exact ⟨congrArg Ending.returned (by simp [*]), by go_grown⟩
  exact key _ _ _ rfl rfl rfl
set_option maxHeartbeats 400000 in
theorem leapR_any (y : Int) (w : World) : Calls Tryd.prog 72 #[.int .i64 y] w (Ret (.bool (leapB y)) w) := by
  have e1 := tmod_zero y 4
  have e2 := tmod_zero y 100
  have e3 := tmod_zero y 400
  unfold leapB
  rw [← e1, ← e2, ← e3]
  clear e1 e2 e3
  have key : ∀ p q r : Bool, (y.tmod 4 == 0) = p → (y.tmod 100 == 0) = q → (y.tmod 400 == 0) = r → Calls Tryd.prog 72 #[.int .i64 y] w (Ret (.bool ((p && !q) || r)) w) := by
    intro p q r hp hq hr
    have hp' : (!(y.tmod 4 == 0)) = !p := by rw [hp]
    cases p <;> cases q <;> cases r
    all_goals
      simp only [beq_eq_false_iff_ne, beq_iff_eq, ne_eq] at hp hq hr
      simp only [Bool.not_false, Bool.not_true] at hp'
      go_enter Tryd.func72, Tryd.ntmps72
      go_wp2
      go_ret
      exact ⟨congrArg Ending.returned (by simp [*]), by go_grown⟩
  exact key _ _ _ rfl rfl rfl

/-- How many days a month has. -/
def lenI (y m : Int) : Int := if m = 2 then (if leapB y then 29 else 28) else if m = 4 ∨ m = 6 ∨ m = 9 ∨ m = 11 then 30 else if 1 ≤ m ∧ m ≤ 12 then 31 else 0
theorem lenI_range (y m : Int) : 0 ≤ lenI y m ∧ lenI y m ≤ 31 := by
  unfold lenI
  split
  · split <;> omega
  · split
    · omega
    · split <;> omega
theorem months_cases {m : Int} (h1 : 1 ≤ m) (h2 : m ≤ 12) : m = 1 ∨ m = 2 ∨ m = 3 ∨ m = 4 ∨ m = 5 ∨ m = 6 ∨ m = 7 ∨ m = 8 ∨ m = 9 ∨ m = 10 ∨ m = 11 ∨ m = 12 := by omega
theorem lenI_pos (y : Int) {m : Int} (h1 : 1 ≤ m) (h2 : m ≤ 12) : 28 ≤ lenI y m := by
  unfold lenI
  split
  · split <;> omega
  · split
    · omega
    · rw [if_pos ⟨h1, h2⟩]; omega
theorem lenI_none (y : Int) {m : Int} (h : m < 1 ∨ 12 < m) : lenI y m = 0 := by
  unfold lenI
  rw [if_neg (by omega), if_neg (by omega), if_neg (by omega)]
set_option maxHeartbeats 1000000 in
theorem length_any (y m : Int) (w : World) : Calls Tryd.prog 52 #[.int .i64 y, .int .i64 m] w (Ret (.int .i64 (lenI y m)) w) := by
  have LP := Lib.hid (leap_any y)
  by_cases h : 1 ≤ m ∧ m ≤ 12
  · rcases months_cases h.1 h.2 with rfl | rfl | rfl | rfl | rfl | rfl | rfl | rfl | rfl | rfl | rfl | rfl
    case inr.inl =>
      rw [show lenI y 2 = (if leapB y then 29 else 28) from rfl]
      generalize leapB y = l at *
      cases l
      all_goals
        clear h
        go_enter Tryd.func52, Tryd.ntmps52
        go_wp2_with fail
        refine (LP.out _).mono ?_
        rintro e w1 ⟨rfl, hb1⟩
        go_wp2
        go_ret
        exact ⟨rfl, bstep (by go_grown) hb1⟩
    all_goals
      clear h LP
      go_enter Tryd.func52, Tryd.ntmps52
      go_wp2
      go_ret
      exact ⟨rfl, by go_grown⟩
  · rw [lenI_none y (by omega)]
    have h1 : (m == 1) = false := beq_eq_false_iff_ne.2 (by omega)
    have h2 : (m == 2) = false := beq_eq_false_iff_ne.2 (by omega)
    have h3 : (m == 3) = false := beq_eq_false_iff_ne.2 (by omega)
    have h4 : (m == 4) = false := beq_eq_false_iff_ne.2 (by omega)
    have h5 : (m == 5) = false := beq_eq_false_iff_ne.2 (by omega)
    have h6 : (m == 6) = false := beq_eq_false_iff_ne.2 (by omega)
    have h7 : (m == 7) = false := beq_eq_false_iff_ne.2 (by omega)
    have h8 : (m == 8) = false := beq_eq_false_iff_ne.2 (by omega)
    have h9 : (m == 9) = false := beq_eq_false_iff_ne.2 (by omega)
    have h10 : (m == 10) = false := beq_eq_false_iff_ne.2 (by omega)
    have h11 : (m == 11) = false := beq_eq_false_iff_ne.2 (by omega)
    have h12 : (m == 12) = false := beq_eq_false_iff_ne.2 (by omega)
    clear h LP
    go_enter Tryd.func52, Tryd.ntmps52
    go_wp2
    go_ret
    exact ⟨rfl, by go_grown⟩
set_option maxHeartbeats 1000000 in
theorem lengthR_any (y m : Int) (w : World) : Calls Tryd.prog 43 #[.int .i64 y, .int .i64 m] w (Ret (.int .i64 (lenI y m)) w) := by
  have LP := Lib.hid (leapR_any y)
  by_cases h : 1 ≤ m ∧ m ≤ 12
  · rcases months_cases h.1 h.2 with rfl | rfl | rfl | rfl | rfl | rfl | rfl | rfl | rfl | rfl | rfl | rfl
    case inr.inl =>
      rw [show lenI y 2 = (if leapB y then 29 else 28) from rfl]
      generalize leapB y = l at *
      cases l
      all_goals
        clear h
        go_enter Tryd.func43, Tryd.ntmps43
        go_wp2_with fail
        refine (LP.out _).mono ?_
        rintro e w1 ⟨rfl, hb1⟩
        go_wp2
        go_ret
        exact ⟨rfl, bstep (by go_grown) hb1⟩
    all_goals
      clear h LP
      go_enter Tryd.func43, Tryd.ntmps43
      go_wp2
      go_ret
      exact ⟨rfl, by go_grown⟩
  · rw [lenI_none y (by omega)]
    rcases (show m < 1 ∨ ¬ m < 1 ∧ 12 < m by omega) with h1 | ⟨h1, h2⟩
    · have t1 : decide (m < 1) = true := decide_eq_true h1
      clear h h1 LP
      go_enter Tryd.func43, Tryd.ntmps43
      go_wp2
      go_ret
      exact ⟨rfl, by go_grown⟩
    · have t1 : decide (m < 1) = false := decide_eq_false h1
      have t2 : decide (12 < m) = true := decide_eq_true h2
      clear h h1 h2 LP
      go_enter Tryd.func43, Tryd.ntmps43
      go_wp2
      go_ret
      exact ⟨rfl, by go_grown⟩

/-- How many days a year has. -/
def ylen (y : Int) : Int := if leapB y then 366 else 365
/-- A year with which one can reckon. -/
def Yr (y : Int) : Prop := -2000000000 ≤ y ∧ y ≤ 2000000000
theorem Yr.i64 {y : Int} (h : Yr y) : I64 y := by unfold I64; obtain ⟨_, _⟩ := h; omega
/-- How many leap years there are up to a year. -/
def lups (y : Int) : Int := y / 4 - y / 100 + y / 400
/-- The number of a year's first day. -/
def yst (y : Int) : Int := 365 * (y - 1970) + lups (y - 1) - 477
theorem lups_range {y : Int} (h : Yr y) : -1000000000 ≤ lups y ∧ lups y ≤ 1000000000 := by unfold lups; obtain ⟨_, _⟩ := h; omega
theorem yst_range {y : Int} (h : Yr y) (h' : Yr (y - 1)) : -800000000000 ≤ yst y ∧ yst y ≤ 800000000000 := by have := lups_range h'; unfold yst; obtain ⟨_, _⟩ := h; omega
set_option maxHeartbeats 1000000 in
theorem leapsUpTo_any (y : Int) (hy : Yr y) (w : World) : Calls Tryd.prog 76 #[.int .i64 y] w (Ret (.int .i64 (lups y)) w) := by
  have F1 := Lib.hid (floorDiv_any y 4 hy.i64 (by decide) (by unfold I64; omega))
  have F2 := Lib.hid (floorDiv_any y 100 hy.i64 (by decide) (by unfold I64; omega))
  have F3 := Lib.hid (floorDiv_any y 400 hy.i64 (by decide) (by unfold I64; omega))
  have u1 : I64 (y / 4 - y / 100) := by unfold I64; obtain ⟨_, _⟩ := hy; omega
  have u2 : I64 (y / 4 - y / 100 + y / 400) := by unfold I64; obtain ⟨_, _⟩ := hy; omega
  have v1 := u1.wrap'
  have v2 := u2.wrap'
  clear u1 u2 hy
  go_enter Tryd.func76, Tryd.ntmps76
  go_wp2_with fail
  refine (F1.out _).mono ?_
  rintro e w1 ⟨rfl, hb1⟩
  go_wp2_with fail
  refine (F2.out _).mono ?_
  rintro e w2 ⟨rfl, hb2⟩
  go_wp2_with fail
  refine (F3.out _).mono ?_
  rintro e w3 ⟨rfl, hb3⟩
  go_wp2
  go_ret
  exact ⟨congrArg Ending.returned (by simp [lups, *]), bstep (bstep (bstep (by go_grown) hb1) hb2) hb3⟩
theorem lups_1969 : lups 1969 = 477 := rfl
set_option maxHeartbeats 1000000 in
theorem yearStart_any (y : Int) (hy : Yr y) (hy' : Yr (y - 1)) (w : World) : Calls Tryd.prog 48 #[.int .i64 y] w (Ret (.int .i64 (yst y)) w) := by
  have F1 := Lib.hid (leapsUpTo_any (y - 1) hy')
  have F2 := Lib.hid (leapsUpTo_any 1969 (by unfold Yr; omega))
  rw [lups_1969] at F2
  have hl := lups_range hy'
  unfold yst
  generalize lups (y - 1) = l at *
  have u0 : I64 (y - 1) := by unfold I64; obtain ⟨_, _⟩ := hy'; omega
  have u1 : I64 (y - 1970) := by unfold I64; obtain ⟨_, _⟩ := hy; omega
  have u2 : I64 (365 * (y - 1970)) := by unfold I64; obtain ⟨_, _⟩ := hy; omega
  have u3 : I64 (365 * (y - 1970) + l) := by unfold I64; obtain ⟨_, _⟩ := hy; omega
  have u4 : I64 (365 * (y - 1970) + l - 477) := by unfold I64; obtain ⟨_, _⟩ := hy; omega
  have v0 := u0.wrap'
  have v1 := u1.wrap'
  have v2 := u2.wrap'
  have v3 := u3.wrap'
  have v4 := u4.wrap'
  clear u0 u1 u2 u3 u4 hy hy' hl
  go_enter Tryd.func48, Tryd.ntmps48
  go_wp2_with fail
  try rw [v0]
  refine (F1.out _).mono ?_
  rintro e w1 ⟨rfl, hb1⟩
  go_wp2_with fail
  refine (F2.out _).mono ?_
  rintro e w2 ⟨rfl, hb2⟩
  go_wp2
  go_ret
  exact ⟨congrArg Ending.returned (by simp [*]), bstep (bstep (by go_grown) hb1) hb2⟩
/-- How many days lie ahead of a year: the reference's count. -/
def yrR (y : Int) : Int := 365 * (y - 1) + (y - 1) / 4 - (y - 1) / 100 + (y - 1) / 400
theorem yrR_eq (y : Int) : yrR y = yst y + 719162 := by unfold yrR yst lups; omega
theorem mayBeYear_any (y : Int) (w : World) : Calls Tryd.prog 56 #[.int .i64 y] w (Ret (.bool (decide (-999999999 ≤ y) && decide (y ≤ 999999999))) w) := by
  have key : ∀ p q : Bool, decide (-999999999 ≤ y) = p → decide (y ≤ 999999999) = q → Calls Tryd.prog 56 #[.int .i64 y] w (Ret (.bool (p && q)) w) := by
    intro p q hp hq
    cases p <;> cases q
    all_goals
      go_enter Tryd.func56, Tryd.ntmps56
      go_wp2
      go_ret
      exact ⟨rfl, by go_grown⟩
  exact key _ _ rfl rfl
end Go.Proofs.YtkkddflclakphaaDoor
