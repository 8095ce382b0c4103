/-
  The year and the day of a number, a day's week (package civil and the reference): each as a contract of its call.
-/
import Derived.Test.YtkkddflclakphaaDoorCc
namespace Go.Proofs.YtkkddflclakphaaDoor
open Go.RowKit

/-- The year of a number. -/
def yofI (n : Int) : Int := if n < yst (1970 + 400 * n / 146097) then 1970 + 400 * n / 146097 - 1 else if yst (1970 + 400 * n / 146097 + 1) ≤ n then 1970 + 400 * n / 146097 + 1 else 1970 + 400 * n / 146097
theorem yof_spec (n : Int) : yst (yofI n) ≤ n ∧ n < yst (yofI n + 1) := by
  have := year_guess n
  unfold yofI
  generalize 1970 + 400 * n / 146097 = g at *
  split
  · rename_i h; exact ⟨this.1, by rw [Int.sub_add_cancel]; exact h⟩
  · split
    · rename_i h k; exact ⟨k, by rw [show g + 1 + 1 = g + 2 from by omega]; exact this.2⟩
    · rename_i h k; exact ⟨by omega, by omega⟩
set_option maxHeartbeats 2000000 in
theorem yearOf_any (n : Int) (h1 : -365243219162 ≤ n) (h2 : n < 365241780472) (w : World) : Calls Tryd.prog 51 #[.int .i64 n] w (Ret (.int .i64 (yofI n)) w) := by
  have g1 : -1000000100 ≤ 1970 + 400 * n / 146097 ∧ 1970 + 400 * n / 146097 ≤ 1000000100 := by omega
  have u1 : I64 (n * 400) := by unfold I64; omega
  have FD0 := floorDiv_any (n * 400) 146097 u1 (by decide) (by unfold I64; omega)
  have v1 := u1.wrap'
  have c1 : n * 400 = 400 * n := Int.mul_comm _ _
  rw [c1] at FD0 v1
  unfold yofI
  obtain ⟨q, hq⟩ : ∃ q, q = 400 * n / 146097 := ⟨_, rfl⟩
  obtain ⟨r, hr⟩ : ∃ q, q = 400 * n % 146097 := ⟨_, rfl⟩
  rw [← hq] at g1 FD0 ⊢
  rw [← hr] at FD0
  have u2 : I64 (1970 + q) := by unfold I64; omega
  have v2 := u2.wrap'
  have u3 : I64 (1970 + q + 1) := by unfold I64; omega
  have v3 := u3.wrap'
  have u4 : I64 (1970 + q - 1) := by unfold I64; omega
  have v4 := u4.wrap'
  obtain ⟨g, hg⟩ : ∃ g, g = 1970 + q := ⟨_, rfl⟩
  rw [← hg] at g1 u2 u3 u4 v2 v3 v4 ⊢
  have S1 := Lib.hid (yearStart_any g (by unfold Yr; omega) (by unfold Yr; omega))
  have S2 := Lib.hid (yearStart_any (g + 1) (by unfold Yr; omega) (by unfold Yr; omega))
  generalize yst g = a at *
  generalize yst (g + 1) = b at *
  have FD := Lib.hid FD0
  have hg' : 1970 + q = g := hg.symm
  have HN := Lib.hid (show wrap64 (n * 400) = 400 * n by rw [c1, v1])
  clear hq hr hg g1 u1 u2 u3 u4 FD0 c1 h1 h2 v1
  have key : ∀ (s t : Bool), decide (n < a) = s → decide (b ≤ n) = t → Calls Tryd.prog 51 #[.int .i64 n] w (Ret (.int .i64 (if s then g - 1 else if t then g + 1 else g)) w) := by
    intro s t hs ht
    cases s
    · cases t
      all_goals
        go_enter Tryd.func51, Tryd.ntmps51
        go_wp2_with fail
        rw [HN.out]
        refine (FD.out _).mono ?_
        rintro e w1 ⟨rfl, hb1⟩
        go_wp2_with fail
        refine (S1.out _).mono ?_
        rintro e w2 ⟨rfl, hb2⟩
        go_wp2_with fail
        refine (S2.out _).mono ?_
        rintro e w3 ⟨rfl, hb3⟩
        go_wp2
        go_ret
        exact ⟨congrArg Ending.returned (by simp [*]), bstep (bstep (bstep (by go_grown) hb1) hb2) hb3⟩
    · go_enter Tryd.func51, Tryd.ntmps51
      go_wp2_with fail
      rw [HN.out]
      refine (FD.out _).mono ?_
      rintro e w1 ⟨rfl, hb1⟩
      go_wp2_with fail
      refine (S1.out _).mono ?_
      rintro e w2 ⟨rfl, hb2⟩
      go_wp2
      go_ret
      exact ⟨congrArg Ending.returned (by simp [*]), bstep (bstep (by go_grown) hb1) hb2⟩
  have K := key _ _ rfl rfl
  by_cases k1 : n < a
  · rw [decide_eq_true k1] at K; rw [if_pos k1]; exact K
  · rw [decide_eq_false k1] at K; rw [if_neg k1]
    by_cases k2 : b ≤ n
    · rw [decide_eq_true k2] at K; rw [if_pos k2]; exact K
    · rw [decide_eq_false k2] at K; rw [if_neg k2]; exact K

/-! ### The day of a number -/
def OfRel (w : World) (g : Nat) (y D : Int) (gk : Nat) (mv dv : Value) (W : World) : Prop := ∃ i : Int, gk = (13 - i).toNat ∧ 1 ≤ i ∧ i ≤ 12 ∧ 1 ≤ D - cumI y i ∧ mv = .int .i64 i ∧ dv = .int .i64 (D - cumI y i) ∧ HoldsT W g 0 0 0 ∧ Below w.heap.size w W
set_option maxHeartbeats 2000000 in
theorem of_none (n : Int) (h : n < -365243219162 ∨ 365241780472 ≤ n) (w : World) : Calls Tryd.prog 26 #[.int .i64 n] w (Ret (.tuple #[Dt 0 0 0, .bool false]) w) := by
  have S10 := yearStart_any (-999999999) (by unfold Yr; omega) (by unfold Yr; omega)
  have S20 := yearStart_any 1000000000 (by unfold Yr; omega) (by unfold Yr; omega)
  rw [first_day] at S10
  rw [last_day] at S20
  have S1 := Lib.hid S10
  have S2 := Lib.hid S20
  clear S10 S20
  by_cases k : n < -365243219162
  · have t1 : decide (n < -365243219162) = true := decide_eq_true k
    clear h k
    go_enter Tryd.func26, Tryd.ntmps26
    go_wp2_with fail
    refine (S1.out _).mono ?_
    rintro e w1 ⟨rfl, hb1⟩
    have P := (HoldsT.new rfl : HoldsT (w.alloc (DtC 0 0 0)) w.heap.size 0 0 0).below hb1
    have B : Below w.heap.size w w1 := bstep (by go_grown) hb1
    obtain ⟨⟨a1, a2, a3⟩, ⟨a4, a5, a6⟩, a9⟩ := id P
    go_wp2
    refine ret_via (fun V => HoldsT V w.heap.size 0 0 0) (fun VF hq => ?_) P.put rfl ⟨rfl, ((B.setCell (Nat.le_refl _) _).setCell (Nat.le_refl _) _).setCell (Nat.le_refl _) _⟩
    obtain ⟨⟨d1, d2, d3⟩, -, -⟩ := hq
    simp [results, Tryd.results26, go_sem, d1, d2, d3]
  · have t1 : decide (n < -365243219162) = false := decide_eq_false k
    have t2 : decide (365241780472 ≤ n) = true := decide_eq_true (by omega)
    clear h k
    go_enter Tryd.func26, Tryd.ntmps26
    go_wp2_with fail
    refine (S1.out _).mono ?_
    rintro e w1 ⟨rfl, hb1⟩
    have P := Lib.hid ((HoldsT.new rfl : HoldsT (w.alloc (DtC 0 0 0)) w.heap.size 0 0 0).below hb1)
    have B : Below w.heap.size w w1 := bstep (by go_grown) hb1
    go_wp2_with fail
    refine (S2.out _).mono ?_
    rintro e w2 ⟨rfl, hb2⟩
    have P := P.out.below hb2
    have B := bstep B hb2
    clear hb1 hb2
    obtain ⟨⟨a1, a2, a3⟩, ⟨a4, a5, a6⟩, a9⟩ := id P
    go_wp2
    refine ret_via (fun V => HoldsT V w.heap.size 0 0 0) (fun VF hq => ?_) P.put rfl ⟨rfl, ((B.setCell (Nat.le_refl _) _).setCell (Nat.le_refl _) _).setCell (Nat.le_refl _) _⟩
    obtain ⟨⟨d1, d2, d3⟩, -, -⟩ := hq
    simp [results, Tryd.results26, go_sem, d1, d2, d3]
set_option maxHeartbeats 4000000 in
theorem of_some (n : Int) (h1 : -365243219162 ≤ n) (h2 : n < 365241780472) (w : World) : Calls Tryd.prog 26 #[.int .i64 n] w fun e w' => ∃ y m d, Day y m d ∧ numI y m d = n ∧ Ret (.tuple #[Dt y m d, .bool true]) w e w' := by
  have S10 := yearStart_any (-999999999) (by unfold Yr; omega) (by unfold Yr; omega)
  have S20 := yearStart_any 1000000000 (by unfold Yr; omega) (by unfold Yr; omega)
  rw [first_day] at S10
  rw [last_day] at S20
  have S1 := Lib.hid S10
  have S2 := Lib.hid S20
  have YO := Lib.hid (yearOf_any n h1 h2)
  obtain ⟨y0, y1⟩ := yof_spec n
  have yy := year_in h1 h2 y0 y1
  generalize yofI n = y at *
  have S3 := Lib.hid (yearStart_any y (by unfold Yr; omega) (by unfold Yr; omega))
  have LN := Lib.hid (fun k => length_any y k)
  rw [yst_step] at y1
  have yl := ylen_two y
  have t1 : decide (n < -365243219162) = false := decide_eq_false (by omega)
  have t2 : decide (365241780472 ≤ n) = false := decide_eq_false (by omega)
  obtain ⟨D, hD⟩ : ∃ D, D = n - yst y + 1 := ⟨_, rfl⟩
  have D1 : 1 ≤ D := by omega
  have D2 : D ≤ ylen y := by omega
  have D3 : D ≤ 366 := by omega
  have NN := Lib.hid (show numI y 1 D = n by unfold numI ydI; rw [cum_one]; omega)
  have YY := Lib.hid yy
  have HD2 := Lib.hid D2
  have u1 : I64 (n - yst y) := by unfold I64; omega
  have v1 := u1.wrap'
  have v2 : wrap64 (n - yst y + 1) = D := by rw [← hD]; exact I64.wrap' (by unfold I64; omega)
  generalize yst y = ys at *
  clear S10 S20 y0 y1 yl hD u1 yy D2 h1 h2
  go_enter Tryd.func26, Tryd.ntmps26
  go_wp2_with fail
  refine (S1.out _).mono ?_
  rintro e w1 ⟨rfl, hb1⟩
  have P := Lib.hid ((HoldsT.new rfl : HoldsT (w.alloc (DtC 0 0 0)) w.heap.size 0 0 0).below hb1)
  have B : Below w.heap.size w w1 := bstep (by go_grown) hb1
  go_wp2_with fail
  refine (S2.out _).mono ?_
  rintro e w2 ⟨rfl, hb2⟩
  replace P := Lib.hid (P.out.below hb2)
  replace B := bstep B hb2
  go_wp2_with fail
  refine (YO.out _).mono ?_
  rintro e w3 ⟨rfl, hb3⟩
  replace P := Lib.hid (P.out.below hb3)
  replace B := bstep B hb3
  go_wp2_with fail
  refine (S3.out _).mono ?_
  rintro e w4 ⟨rfl, hb4⟩
  replace P := Lib.hid (P.out.below hb4)
  replace B := bstep B hb4
  clear hb1 hb2 hb3 hb4 S1 S2 S3 YO t1 t2
  go_wp2
  go_loopg [5, 6] 12 (fun gk mv dv W => OfRel w w.heap.size y D gk mv dv W)
  case atStart => exact ⟨1, rfl, by decide, by decide, by rw [cum_one]; omega, rfl, by rw [cum_one]; go_num, P.out, B⟩
  case round =>
    clear P B v1 v2
    obtain ⟨i, hg, hi1, hi2, hd, rfl, rfl, P0, B⟩ := hrel
    have P := Lib.hid P0
    have HG := Lib.hid hg
    have s := Lib.hid (cum_step y hi1 hi2)
    have cr := cum_range y hi1 (show i ≤ 13 by omega)
    have lr := lenI_range y i
    obtain ⟨ci, hci⟩ : ∃ c, c = cumI y i := ⟨_, rfl⟩
    obtain ⟨li, hli⟩ : ∃ c, c = lenI y i := ⟨_, rfl⟩
    have LN1 := LN.out i
    rw [← hli] at lr LN1
    rw [← hci] at cr hd
    rw [← hci]
    rw [← hci, ← hli] at s
    have CE := Lib.hid hci
    have LE := Lib.hid hli
    have LN2 := Lib.hid LN1
    clear P0 hg hci hli LN1
    by_cases k : li < D - ci
    · have t1 : decide (li < D - ci) = true := decide_eq_true k
      have K12 : i ≤ 11 := by
        rcases (show i ≤ 11 ∨ i = 12 by omega) with q | q
        · exact q
        · subst q
          have := s.out
          rw [show (12 : Int) + 1 = 13 from rfl, cum_end] at this
          have := HD2.out
          omega
      have KK := Lib.hid k
      clear k
      go_wp2_with fail
      refine (LN2.out _).mono ?_
      rintro e w5 ⟨rfl, hb5⟩
      replace P := Lib.hid (P.out.below hb5)
      replace B := bstep B hb5
      go_wp2_with fail
      refine (LN2.out _).mono ?_
      rintro e w6 ⟨rfl, hb6⟩
      replace P := Lib.hid (P.out.below hb6)
      replace B := bstep B hb6
      clear hb5 hb6
      go_wp2
      go_roundg (13 - (i + 1)).toNat
      case measure => rw [HG.out]; omega
      case rel => exact ⟨i + 1, rfl, by omega, by omega, by rw [s.out]; have := KK.out; omega, by go_num, by rw [s.out]; go_num, P.out, B⟩
    · have t1 : decide (li < D - ci) = false := decide_eq_false k
      have KK := Lib.hid k
      clear k
      go_wp2_with fail
      refine (LN2.out _).mono ?_
      rintro e w5 ⟨rfl, hb5⟩
      have P := P.out.below hb5
      have B := bstep B hb5
      clear hb5
      obtain ⟨⟨a1, a2, a3⟩, ⟨a4, a5, a6⟩, a9⟩ := id P
      have HH := Lib.hid (show Day y i (D - ci) ∧ numI y i (D - ci) = n from ⟨⟨YY.out, ⟨hi1, hi2⟩, hd, by rw [← LE.out]; have := KK.out; omega⟩, by have := NN.out; unfold numI ydI at this ⊢; rw [cum_one] at this; rw [← CE.out]; omega⟩)
      clear hi1 hi2 hd cr lr D1 D3
      generalize D - ci = dd at *
      go_wp2
      refine ret_via (fun V => HoldsT V w.heap.size y i dd) (fun VF hq => ?_) P.put rfl ⟨y, i, dd, HH.out.1, HH.out.2, rfl, ((B.setCell (Nat.le_refl _) _).setCell (Nat.le_refl _) _).setCell (Nat.le_refl _) _⟩
      obtain ⟨⟨d1, d2, d3⟩, -, -⟩ := hq
      simp [results, Tryd.results26, go_sem, d1, d2, d3]
theorem of_num (y m d : Int) (h : Day y m d) (w : World) : Calls Tryd.prog 26 #[.int .i64 (numI y m d)] w (Ret (.tuple #[Dt y m d, .bool true]) w) := by
  have l := num_in h
  refine (of_some _ l.1 l.2 w).mono ?_
  rintro e w' ⟨z, k, c, h', e1, r⟩
  obtain ⟨rfl, rfl, rfl⟩ := num_inj h' h e1
  exact r

/-! ### The reference's day of a number -/
theorem yrR_mono {a b : Int} (h : yrR a < yrR b) : a < b := by rw [yrR_eq, yrR_eq] at h; exact yst_lt (by omega)
end Go.Proofs.YtkkddflclakphaaDoor
