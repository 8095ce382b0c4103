/-
  A day's week (package civil and the reference), the day so many months later, the day that a law makes: each as a contract of its call.
-/
import Derived.Test.YthgondbiddncpaaDoorCd
namespace Go.Proofs.YthgondbiddncpaaDoor
open Go.RowKit

/-- The number of the Thursday of a day's week. -/
def thI (n : Int) : Int := n + 4 - wdI n
/-- The year in which that lies: that of the day, or one beside it. -/
def wyI (y n : Int) : Int := if thI n < yst y then y - 1 else if yst (y + 1) ≤ thI n then y + 1 else y
/-- The number of the week whose Thursday is that day, of that year. -/
def wkI (t z : Int) : Int := (t - yst z) / 7 + 1
theorem th_near (n : Int) : n - 3 ≤ thI n ∧ thI n ≤ n + 3 := by unfold thI wdI; omega
theorem wy_spec {y m d : Int} (h : Day y m d) : yst (wyI y (numI y m d)) ≤ thI (numI y m d) ∧ thI (numI y m d) < yst (wyI y (numI y m d) + 1) := by
  have a := num_year h
  have b := th_near (numI y m d)
  have c := yst_step y
  have e := yst_step (y - 1)
  have f := yst_step (y + 1)
  have l1 := ylen_two y
  have l2 := ylen_two (y - 1)
  have l3 := ylen_two (y + 1)
  rw [Int.sub_add_cancel] at e
  unfold wyI
  split
  · rw [Int.sub_add_cancel]; omega
  · split <;> omega
/-- A day's week. -/
def weekI (y m d : Int) : Int := wkI (thI (numI y m d)) (wyI y (numI y m d))
theorem week_of {y m d z : Int} (h : Day y m d) (h1 : yst z ≤ thI (numI y m d)) (h2 : thI (numI y m d) < yst (z + 1)) : weekI y m d = wkI (thI (numI y m d)) z := by
  have k := wy_spec h
  unfold weekI
  rw [year_one k.1 k.2 h1 h2]
theorem tdiv_nat {a b : Int} (h : 0 ≤ a) : a.tdiv b = a / b := Int.tdiv_eq_ediv_of_nonneg h
/-- The year and the month so many months later. -/
def moY (y m n : Int) : Int := y + (m - 1 + n) / 12
def moM (m n : Int) : Int := (m - 1 + n) % 12 + 1
/-! ### The day that a law makes -/
def mkM (m : Int) : Int := (m.tmod 12 + 12).tmod 12 + 1
def mkD (d n : Int) : Int := (d.tmod n + n).tmod n + 1
theorem tmod_range (a : Int) {b : Int} (hb : 0 < b) : -b < a.tmod b ∧ a.tmod b < b := ⟨Int.lt_tmod_of_pos a hb, Int.tmod_lt_of_pos a hb⟩
theorem mkD_range (d : Int) {n : Int} (hn : 0 < n) : 1 ≤ mkD d n ∧ mkD d n ≤ n := by
  have a := tmod_range d hn
  have b := Int.tmod_nonneg n (show 0 ≤ d.tmod n + n by omega)
  have c := Int.tmod_lt_of_pos (d.tmod n + n) hn
  unfold mkD
  omega
theorem mkM_range (m : Int) : 1 ≤ mkM m ∧ mkM m ≤ 12 := mkD_range m (n := 12) (by decide)
/-- The day is there. -/
theorem make_day (y m d : Int) : Day (y.tmod 1000000000) (mkM m) (mkD d (lenI (y.tmod 1000000000) (mkM m))) := by
  have a := tmod_range y (b := 1000000000) (by decide)
  have b := mkM_range m
  have c := lenI_pos (y.tmod 1000000000) b.1 b.2
  exact ⟨by omega, b, mkD_range d (by omega)⟩
set_option maxHeartbeats 4000000 in
theorem make_any (y m d : Int) (w : World) : Calls Tryd.prog 28 #[.int .i64 y, .int .i64 m, .int .i64 d] w (Ret (Dt (y.tmod 1000000000) (mkM m) (mkD d (lenI (y.tmod 1000000000) (mkM m)))) w) := by
  obtain ⟨Y, hY⟩ : ∃ Y, y.tmod 1000000000 = Y := ⟨_, rfl⟩
  have r0 := tmod_range y (b := 1000000000) (by decide)
  rw [hY] at r0 ⊢
  have LN := Lib.hid (lengthR_any Y (mkM m))
  have b := mkM_range m
  have c := lenI_pos Y b.1 b.2
  have c' := lenI_range Y (mkM m)
  have r1 := tmod_range m (b := 12) (by decide)
  have r2 := tmod_range (m.tmod 12 + 12) (b := 12) (by decide)
  have u0 : I64 Y := by unfold I64; omega
  have u1 : I64 (m.tmod 12 + 12) := by unfold I64; omega
  have u2 : I64 ((m.tmod 12 + 12).tmod 12 + 1) := by unfold I64; omega
  have f0 := u0.wrap
  have f0' := u0.wrap'
  have f1 := u1.wrap
  have f1' := u1.wrap'
  have f2 : IntKind.i64.wrap ((m.tmod 12 + 12).tmod 12 + 1) = mkM m := u2.wrap
  have f2' : wrap64 ((m.tmod 12 + 12).tmod 12 + 1) = mkM m := u2.wrap'
  generalize mkM m = M at *
  generalize lenI Y M = L at *
  have r3 := tmod_range d (b := L) (by omega)
  have r4 := tmod_range (d.tmod L + L) (b := L) (by omega)
  have u3 : I64 (d.tmod L + L) := by unfold I64; omega
  have u4 : I64 ((d.tmod L + L).tmod L + 1) := by unfold I64; omega
  have f3 := u3.wrap
  have f3' := u3.wrap'
  have f4 : IntKind.i64.wrap ((d.tmod L + L).tmod L + 1) = mkD d L := u4.wrap
  have f4' : wrap64 ((d.tmod L + L).tmod L + 1) = mkD d L := u4.wrap'
  have L0 : L ≠ 0 := by omega
  generalize mkD d L = D at *
  clear b c c' r0 r1 r2 r3 r4 u0 u1 u2 u3 u4
  go_enter Tryd.func28, Tryd.ntmps28
  go_wp2_with fail
  refine (LN.out _).mono ?_
  rintro e w1 ⟨rfl, hb1⟩
  have P := (HoldsT.new rfl : HoldsT (w.alloc (DtC 0 0 0)) w.heap.size 0 0 0).below hb1
  have B : Below w.heap.size w w1 := bstep (by go_grown) hb1
  clear hb1 LN
  obtain ⟨⟨a1, a2, a3⟩, ⟨a4, a5, a6⟩, a9⟩ := id P
  go_wp2
  refine ret_via (fun V => HoldsT V w.heap.size Y M D) (fun VF hq => ?_) P.put rfl ⟨rfl, ((B.setCell (Nat.le_refl _) _).setCell (Nat.le_refl _) _).setCell (Nat.le_refl _) _⟩
  obtain ⟨⟨d1, d2, d3⟩, -, -⟩ := hq
  simp [results, Tryd.results28, go_sem, d1, d2, d3]
end Go.Proofs.YthgondbiddncpaaDoor
