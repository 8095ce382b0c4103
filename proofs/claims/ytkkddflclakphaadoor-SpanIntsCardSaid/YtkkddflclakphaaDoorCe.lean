/-
  A day's week (package civil and the reference), the day so many months later, the day that a law makes: each as a contract of its call.
-/
import Derived.Test.YtkkddflclakphaaDoorCd
namespace Go.Proofs.YtkkddflclakphaaDoor
open Go.RowKit

/-- The number of the Thursday of a day's week. -/
def thI (n : Int) : Int := n + 4 - wdI n
/-- The year in which that lies: that of the day, or one beside it. -/
def wyI (y n : Int) : Int := if thI n < yst y then y - 1 else if yst (y + 1) ≤ thI n then y + 1 else y
/-- The number of the week whose Thursday is that day, of that year. -/
def wkI (t z : Int) : Int := (t - yst z) / 7 + 1
theorem th_near (n : Int) : n - 3 ≤ thI n ∧ thI n ≤ n + 3 := by unfold thI wdI; omega
theorem wy_spec {y m d : Int} (h : Day y m d) : yst (wyI y (numI y m d)) ≤ thI (numI y m d) ∧ thI (numI y m d) < yst (wyI y (numI y m d) + 1) := by
  have a := num_year h
  have b := th_near (numI y m d)
  have c := yst_step y
  have e := yst_step (y - 1)
  have f := yst_step (y + 1)
  have l1 := ylen_two y
  have l2 := ylen_two (y - 1)
  have l3 := ylen_two (y + 1)
  rw [Int.sub_add_cancel] at e
  unfold wyI
  split
  · rw [Int.sub_add_cancel]; omega
  · split <;> omega
/-- A day's week. -/
def weekI (y m d : Int) : Int := wkI (thI (numI y m d)) (wyI y (numI y m d))
theorem week_of {y m d z : Int} (h : Day y m d) (h1 : yst z ≤ thI (numI y m d)) (h2 : thI (numI y m d) < yst (z + 1)) : weekI y m d = wkI (thI (numI y m d)) z := by
  have k := wy_spec h
  unfold weekI
  rw [year_one k.1 k.2 h1 h2]
theorem tdiv_nat {a b : Int} (h : 0 ≤ a) : a.tdiv b = a / b := Int.tdiv_eq_ediv_of_nonneg h
/-! ### The day so many months later -/
set_option maxHeartbeats 2000000 in
theorem months_no (y m d n : Int) (h : mayT y m d = false ∨ n < -9007199254740992 ∨ 9007199254740992 < n) (w : World) : Calls Tryd.prog 29 #[Dt y m d, .int .i64 n] w (Ret (.tuple #[Dt 0 0 0, .bool false]) w) := by
  have MD0 := mayDay_any y m d
  obtain ⟨p, hp⟩ : ∃ p, mayT y m d = p := ⟨_, rfl⟩
  obtain ⟨q, hq⟩ : ∃ p, decide (n < -9007199254740992) = p := ⟨_, rfl⟩
  obtain ⟨r, hr⟩ : ∃ p, decide (9007199254740992 < n) = p := ⟨_, rfl⟩
  rw [hp] at MD0 h
  have MD := Lib.hid MD0
  have hh : p = false ∨ (p = true ∧ q = true) ∨ (p = true ∧ q = false ∧ r = true) := by
    cases p
    · exact .inl rfl
    · rcases h with h | h | h
      · cases h
      · exact .inr (.inl ⟨rfl, by rw [← hq]; exact decide_eq_true h⟩)
      · exact .inr (.inr ⟨rfl, by rw [← hq]; exact decide_eq_false (by omega), by rw [← hr]; exact decide_eq_true h⟩)
  clear MD0 h hp
  rcases hh with rfl | ⟨rfl, rfl⟩ | ⟨rfl, rfl, rfl⟩
  all_goals
    go_enter Tryd.func29, Tryd.ntmps29
    go_wp2_with fail
    refine (MD.out _).mono ?_
    rintro e w1 ⟨rfl, hb1⟩
    have P := (HoldsT.new (by simp) : HoldsT ((w.alloc (DtC y m d)).alloc (DtC 0 0 0)) (w.heap.size + 1) 0 0 0).below hb1
    have B : Below w.heap.size w w1 := bstep (by go_grown) hb1
    clear hb1 MD
    obtain ⟨⟨a1, a2, a3⟩, ⟨a4, a5, a6⟩, a9⟩ := id P
    go_wp2
    refine ret_via (fun V => HoldsT V (w.heap.size + 1) 0 0 0) (fun VF hq => ?_) P.put rfl ⟨rfl, ((B.setCell (Nat.le_succ _) _).setCell (Nat.le_succ _) _).setCell (Nat.le_succ _) _⟩
    obtain ⟨⟨d1, d2, d3⟩, -, -⟩ := hq
    simp [results, Tryd.results29, go_sem, d1, d2, d3]
/-- The year and the month so many months later. -/
def moY (y m n : Int) : Int := y + (m - 1 + n) / 12
def moM (m n : Int) : Int := (m - 1 + n) % 12 + 1
set_option maxHeartbeats 4000000 in
theorem months_far (y m d n : Int) (h : Day y m d) (n1 : -9007199254740992 ≤ n) (n2 : n ≤ 9007199254740992) (far : moY y m n < -999999999 ∨ 999999999 < moY y m n) (w : World) : Calls Tryd.prog 29 #[Dt y m d, .int .i64 n] w (Ret (.tuple #[Dt 0 0 0, .bool false]) w) := by
  have MD0 := mayDay_any y m d
  rw [may_day.2 h] at MD0
  have MD := Lib.hid MD0
  have hm := h.2.1
  have hy := h.1
  have MY0 := mayBeYear_any (moY y m n)
  rw [show (decide (-999999999 ≤ moY y m n) && decide (moY y m n ≤ 999999999)) = false by
    rcases far with k | k
    · rw [decide_eq_false (p := -999999999 ≤ moY y m n) (by omega), Bool.false_and]
    · rw [decide_eq_false (p := moY y m n ≤ 999999999) (by omega), Bool.and_false]] at MY0
  have MY := Lib.hid MY0
  have t1 : decide (n < -9007199254740992) = false := decide_eq_false (by omega)
  have t2 : decide (9007199254740992 < n) = false := decide_eq_false (by omega)
  have u2 : I64 (m - 1 + n) := by unfold I64; omega
  have f2 := u2.wrap
  have f2' := u2.wrap'
  have FD := Lib.hid (floorDiv_any (m - 1 + n) 12 u2 (by decide) (by unfold I64; omega))
  have u3 : I64 (y + (m - 1 + n) / 12) := by unfold I64; omega
  have f3 : IntKind.i64.wrap (y + (m - 1 + n) / 12) = moY y m n := u3.wrap
  have f3' : wrap64 (y + (m - 1 + n) / 12) = moY y m n := u3.wrap'
  have u4 : I64 ((m - 1 + n) % 12 + 1) := by unfold I64; omega
  have f4 := u4.wrap
  have f4' := u4.wrap'
  generalize moY y m n = Y at *
  generalize (m - 1 + n) / 12 = qa at *
  generalize (m - 1 + n) % 12 = qb at *
  clear MD0 MY0 h hy far u2 u3 u4 n1 n2
  go_enter Tryd.func29, Tryd.ntmps29
  go_wp2_with fail
  refine (MD.out _).mono ?_
  rintro e w1 ⟨rfl, hb1⟩
  have P1 := Lib.hid ((HoldsT.alloc (HoldsT.new rfl) _ : HoldsT ((w.alloc (DtC y m d)).alloc (DtC 0 0 0)) w.heap.size y m d).below hb1)
  have P := Lib.hid ((HoldsT.new (by simp) : HoldsT ((w.alloc (DtC y m d)).alloc (DtC 0 0 0)) (w.heap.size + 1) 0 0 0).below hb1)
  have B : Below w.heap.size w w1 := bstep (by go_grown) hb1
  clear hb1 MD
  obtain ⟨⟨a1, a2, a3⟩, -, a9⟩ := P1.out
  go_wp2_with fail
  refine (FD.out _).mono ?_
  rintro e w2 ⟨rfl, hb2⟩
  replace P1 := Lib.hid (P1.out.below hb2)
  replace P := Lib.hid (P.out.below hb2)
  replace B := bstep B hb2
  clear hb2 FD a1 a2 a3 a9
  obtain ⟨⟨a1, a2, a3⟩, -, a9⟩ := P1.out
  go_wp2_with fail
  refine (MY.out _).mono ?_
  rintro e w3 ⟨rfl, hb3⟩
  have P := P.out.below hb3
  replace B := bstep B hb3
  clear hb3 MY a1 a2 a3 a9
  obtain ⟨⟨a1, a2, a3⟩, ⟨a4, a5, a6⟩, a9⟩ := id P
  go_wp2
  refine ret_via (fun V => HoldsT V (w.heap.size + 1) 0 0 0) (fun VF hq => ?_) P.put rfl ⟨rfl, ((B.setCell (Nat.le_succ _) _).setCell (Nat.le_succ _) _).setCell (Nat.le_succ _) _⟩
  obtain ⟨⟨d1, d2, d3⟩, -, -⟩ := hq
  simp [results, Tryd.results29, go_sem, d1, d2, d3]
set_option maxHeartbeats 4000000 in
theorem months_yes (y m d n : Int) (h : Day y m d) (n1 : -9007199254740992 ≤ n) (n2 : n ≤ 9007199254740992) (far : -999999999 ≤ moY y m n ∧ moY y m n ≤ 999999999) (w : World) : Calls Tryd.prog 29 #[Dt y m d, .int .i64 n] w (Ret (.tuple #[Dt (moY y m n) (moM m n) (min d (lenI (moY y m n) (moM m n))), .bool true]) w) := by
  have MD0 := mayDay_any y m d
  rw [may_day.2 h] at MD0
  have MD := Lib.hid MD0
  have hm := h.2.1
  have hy := h.1
  have MY0 := mayBeYear_any (moY y m n)
  rw [decide_eq_true far.1, decide_eq_true far.2, Bool.and_true] at MY0
  have MY := Lib.hid MY0
  have LN := Lib.hid (length_any (moY y m n) (moM m n))
  have t1 : decide (n < -9007199254740992) = false := decide_eq_false (by omega)
  have t2 : decide (9007199254740992 < n) = false := decide_eq_false (by omega)
  have u2 : I64 (m - 1 + n) := by unfold I64; omega
  have f2 := u2.wrap
  have f2' := u2.wrap'
  have FD := Lib.hid (floorDiv_any (m - 1 + n) 12 u2 (by decide) (by unfold I64; omega))
  have u3 : I64 (y + (m - 1 + n) / 12) := by unfold I64; omega
  have f3 : IntKind.i64.wrap (y + (m - 1 + n) / 12) = moY y m n := u3.wrap
  have f3' : wrap64 (y + (m - 1 + n) / 12) = moY y m n := u3.wrap'
  have u4 : I64 ((m - 1 + n) % 12 + 1) := by unfold I64; omega
  have f4 : IntKind.i64.wrap ((m - 1 + n) % 12 + 1) = moM m n := u4.wrap
  have f4' : wrap64 ((m - 1 + n) % 12 + 1) = moM m n := u4.wrap'
  generalize moY y m n = Y at *
  generalize moM m n = M at *
  generalize lenI Y M = L at *
  generalize (m - 1 + n) / 12 = qa at *
  generalize (m - 1 + n) % 12 = qb at *
  clear MD0 MY0 h hy far u2 u3 u4 n1 n2
  go_enter Tryd.func29, Tryd.ntmps29
  go_wp2_with fail
  refine (MD.out _).mono ?_
  rintro e w1 ⟨rfl, hb1⟩
  have P1 := Lib.hid ((HoldsT.alloc (HoldsT.new rfl) _ : HoldsT ((w.alloc (DtC y m d)).alloc (DtC 0 0 0)) w.heap.size y m d).below hb1)
  have P := Lib.hid ((HoldsT.new (by simp) : HoldsT ((w.alloc (DtC y m d)).alloc (DtC 0 0 0)) (w.heap.size + 1) 0 0 0).below hb1)
  have B : Below w.heap.size w w1 := bstep (by go_grown) hb1
  clear hb1 MD
  obtain ⟨⟨a1, a2, a3⟩, -, a9⟩ := P1.out
  go_wp2_with fail
  refine (FD.out _).mono ?_
  rintro e w2 ⟨rfl, hb2⟩
  replace P1 := Lib.hid (P1.out.below hb2)
  replace P := Lib.hid (P.out.below hb2)
  replace B := bstep B hb2
  clear hb2 FD a1 a2 a3 a9
  obtain ⟨⟨a1, a2, a3⟩, -, a9⟩ := P1.out
  go_wp2_with fail
  refine (MY.out _).mono ?_
  rintro e w3 ⟨rfl, hb3⟩
  replace P1 := Lib.hid (P1.out.below hb3)
  replace P := Lib.hid (P.out.below hb3)
  replace B := bstep B hb3
  clear hb3 MY a1 a2 a3 a9
  obtain ⟨⟨a1, a2, a3⟩, -, a9⟩ := P1.out
  obtain ⟨⟨b1, b2, b3⟩, ⟨b4, b5, b6⟩, b9⟩ := P.out
  go_upto_region 7 with fail
  go_region_with
    ((go_at_call 52; (with_reducible refine (LN.out _).mono ?_); rintro e v1 ⟨rfl, hbv1⟩; obtain ⟨hc, hf⟩ := bcell (bundrew hbv1); have sz := hbv1.size))
  all_goals
    go_wp2
    all_goals
      first
      | (rw [show min d L = L by omega]
         refine ret_via (fun V => HoldsT V (w.heap.size + 1) Y M L) (fun VF hq => ?_) (P.out.below (bundrew hbv1)).put rfl ⟨rfl, (((bstep B (bundrew hbv1)).setCell (Nat.le_succ _) _).setCell (Nat.le_succ _) _).setCell (Nat.le_succ _) _⟩
         obtain ⟨⟨d1, d2, d3⟩, -, -⟩ := hq
         simp [results, Tryd.results29, go_sem, d1, d2, d3])
      | (rw [show min d L = d by omega]
         refine ret_via (fun V => HoldsT V (w.heap.size + 1) Y M d) (fun VF hq => ?_) (P.out.below (bundrew hbv1)).put rfl ⟨rfl, (((bstep B (bundrew hbv1)).setCell (Nat.le_succ _) _).setCell (Nat.le_succ _) _).setCell (Nat.le_succ _) _⟩
         obtain ⟨⟨d1, d2, d3⟩, -, -⟩ := hq
         simp [results, Tryd.results29, go_sem, d1, d2, d3])

/-! ### The day that a law makes -/
def mkM (m : Int) : Int := (m.tmod 12 + 12).tmod 12 + 1
def mkD (d n : Int) : Int := (d.tmod n + n).tmod n + 1
theorem tmod_range (a : Int) {b : Int} (hb : 0 < b) : -b < a.tmod b ∧ a.tmod b < b := ⟨Int.lt_tmod_of_pos a hb, Int.tmod_lt_of_pos a hb⟩
theorem mkD_range (d : Int) {n : Int} (hn : 0 < n) : 1 ≤ mkD d n ∧ mkD d n ≤ n := by
  have a := tmod_range d hn
  have b := Int.tmod_nonneg n (show 0 ≤ d.tmod n + n by omega)
  have c := Int.tmod_lt_of_pos (d.tmod n + n) hn
  unfold mkD
  omega
theorem mkM_range (m : Int) : 1 ≤ mkM m ∧ mkM m ≤ 12 := mkD_range m (n := 12) (by decide)
/-- The day is there. -/
theorem make_day (y m d : Int) : Day (y.tmod 1000000000) (mkM m) (mkD d (lenI (y.tmod 1000000000) (mkM m))) := by
  have a := tmod_range y (b := 1000000000) (by decide)
  have b := mkM_range m
  have c := lenI_pos (y.tmod 1000000000) b.1 b.2
  exact ⟨by omega, b, mkD_range d (by omega)⟩
set_option maxHeartbeats 4000000 in
theorem make_any (y m d : Int) (w : World) : Calls Tryd.prog 21 #[.int .i64 y, .int .i64 m, .int .i64 d] w (Ret (Dt (y.tmod 1000000000) (mkM m) (mkD d (lenI (y.tmod 1000000000) (mkM m)))) w) := by
  obtain ⟨Y, hY⟩ : ∃ Y, y.tmod 1000000000 = Y := ⟨_, rfl⟩
  have r0 := tmod_range y (b := 1000000000) (by decide)
  rw [hY] at r0 ⊢
  have LN := Lib.hid (lengthR_any Y (mkM m))
  have b := mkM_range m
  have c := lenI_pos Y b.1 b.2
  have c' := lenI_range Y (mkM m)
  have r1 := tmod_range m (b := 12) (by decide)
  have r2 := tmod_range (m.tmod 12 + 12) (b := 12) (by decide)
  have u0 : I64 Y := by unfold I64; omega
  have u1 : I64 (m.tmod 12 + 12) := by unfold I64; omega
  have u2 : I64 ((m.tmod 12 + 12).tmod 12 + 1) := by unfold I64; omega
  have f0 := u0.wrap
  have f0' := u0.wrap'
  have f1 := u1.wrap
  have f1' := u1.wrap'
  have f2 : IntKind.i64.wrap ((m.tmod 12 + 12).tmod 12 + 1) = mkM m := u2.wrap
  have f2' : wrap64 ((m.tmod 12 + 12).tmod 12 + 1) = mkM m := u2.wrap'
  generalize mkM m = M at *
  generalize lenI Y M = L at *
  have r3 := tmod_range d (b := L) (by omega)
  have r4 := tmod_range (d.tmod L + L) (b := L) (by omega)
  have u3 : I64 (d.tmod L + L) := by unfold I64; omega
  have u4 : I64 ((d.tmod L + L).tmod L + 1) := by unfold I64; omega
  have f3 := u3.wrap
  have f3' := u3.wrap'
  have f4 : IntKind.i64.wrap ((d.tmod L + L).tmod L + 1) = mkD d L := u4.wrap
  have f4' : wrap64 ((d.tmod L + L).tmod L + 1) = mkD d L := u4.wrap'
  have L0 : L ≠ 0 := by omega
  generalize mkD d L = D at *
  clear b c c' r0 r1 r2 r3 r4 u0 u1 u2 u3 u4
  go_enter Tryd.func21, Tryd.ntmps21
  go_wp2_with fail
  refine (LN.out _).mono ?_
  rintro e w1 ⟨rfl, hb1⟩
  have P := (HoldsT.new rfl : HoldsT (w.alloc (DtC 0 0 0)) w.heap.size 0 0 0).below hb1
  have B : Below w.heap.size w w1 := bstep (by go_grown) hb1
  clear hb1 LN
  obtain ⟨⟨a1, a2, a3⟩, ⟨a4, a5, a6⟩, a9⟩ := id P
  go_wp2
  refine ret_via (fun V => HoldsT V w.heap.size Y M D) (fun VF hq => ?_) P.put rfl ⟨rfl, ((B.setCell (Nat.le_refl _) _).setCell (Nat.le_refl _) _).setCell (Nat.le_refl _) _⟩
  obtain ⟨⟨d1, d2, d3⟩, -, -⟩ := hq
  simp [results, Tryd.results21, go_sem, d1, d2, d3]
end Go.Proofs.YtkkddflclakphaaDoor
