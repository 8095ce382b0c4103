/-
  The statement CivilNext, whole: it answers true.
-/
import Derived.Test.YtmikbdnjkfdodaaCj
namespace Go.Proofs.Ytmikbdnjkfdodaa
open Go.RowKit

theorem month_of (y D : Int) (h1 : 1 ≤ D) : ∀ k : Nat, k ≤ 12 → D ≤ cumI y ((k : Int) + 1) → ∃ m : Int, (1 ≤ m ∧ m ≤ 12) ∧ 1 ≤ D - cumI y m ∧ D - cumI y m ≤ lenI y m := by
  intro k
  induction k with
  | zero => intro _ h; rw [show ((0 : Nat) : Int) + 1 = 1 from rfl, cum_one] at h; omega
  | succ k ih =>
    intro hk h
    by_cases q : D ≤ cumI y ((k : Int) + 1)
    · exact ih (by omega) q
    · have s := cum_step y (m := (k : Int) + 1) (by omega) (by omega)
      rw [show ((k + 1 : Nat) : Int) + 1 = (k : Int) + 1 + 1 from by omega, s] at h
      exact ⟨(k : Int) + 1, ⟨by omega, by omega⟩, by omega, by omega⟩
/-- Each number that the years let be is a day's. -/
theorem day_of {n : Int} (h1 : -365243219162 ≤ n) (h2 : n < 365241780472) : ∃ y m d, Day y m d ∧ numI y m d = n := by
  obtain ⟨a, b⟩ := yof_spec n
  have c := year_in h1 h2 a b
  generalize yofI n = y at *
  rw [yst_step] at b
  obtain ⟨m, hm, h3, h4⟩ := month_of y (n - yst y + 1) (by omega) 12 (by decide) (by rw [show ((12 : Nat) : Int) + 1 = 13 from rfl, cum_end]; omega)
  exact ⟨y, m, _, ⟨c, hm, h3, h4⟩, by unfold numI ydI; omega⟩

set_option maxRecDepth 100000 in
set_option maxHeartbeats 8000000 in
theorem civilNext_walk (y m d : Int) (w : World) : Calls Try.prog 7 #[.int .i64 y, .int .i64 m, .int .i64 d] w (Ret (.bool true) w) := by
  obtain ⟨Y, M, D, h1, K1⟩ := made y m d
  have rn := num_in h1
  by_cases k : numI Y M D + 1 < 365241780472
  · obtain ⟨p, q, r, h2, en⟩ := day_of (n := numI Y M D + 1) (by omega) k
    rcases next_yd h1 h2 en with ⟨rfl, hy⟩ | ⟨rfl, hy⟩
    · rcases next_week h1 h2 en with hw | hw
      · exact civilNext_A1 y m d _ M D q r h1 h2 en K1 hy hw w
      · exact civilNext_A2 y m d _ M D q r h1 h2 en K1 hy hw w
    · rcases next_week h1 h2 en with hw | hw
      · exact civilNext_B1 y m d _ M D q r h1 h2 en K1 hy hw w
      · exact civilNext_B2 y m d _ M D q r h1 h2 en K1 hy hw w
  · have AW := Lib.hid awake6
    have MK := Lib.hid K1
    have e0 : numI Y M D = 365241780471 := by omega
    obtain ⟨rfl, rfl, rfl⟩ := num_inj h1 (show Day 999999999 12 31 by unfold Day; decide) (e0.trans (by decide))
    have N10 := number_yes 999999999 12 31 h1
    rw [e0] at N10
    have N1 := Lib.hid N10
    have O1 := Lib.hid (of_none 365241780472 (by omega))
    clear K1 h1 rn k e0 N10
    go_enter Try.func7, Try.ntmps7
    go_wp2_with fail
    refine (AW.out _).mono ?_
    rintro e w1 ⟨rfl, hb⟩
    have B : Below w.heap.size w w1 := bstep (by go_grown) hb
    clear hb AW
    go_wp2_with fail
    refine (MK.out _).mono ?_
    rintro e w2 ⟨rfl, hb⟩
    replace B := bstep B hb
    clear hb MK
    have PX := Lib.hid (HoldsT.new rfl : HoldsT (w2.alloc (DtC 999999999 12 31)) w2.heap.size 999999999 12 31)
    replace B := ballD1 B (DtC 999999999 12 31)
    go_upto_region 4 with fail
    change Code.wp _ _ _ _ (w2.alloc (DtC 999999999 12 31))
    generalize w2.alloc (DtC 999999999 12 31) = w3 at *
    obtain ⟨gPX, hg⟩ : ∃ g, g = w2.heap.size := ⟨_, rfl⟩
    rw [← hg] at PX ⊢
    clear hg
    obtain ⟨⟨c01, c02, c03⟩, -, c09⟩ := PX.out
    go_wp2_with fail
    refine (N1.out _).mono ?_
    rintro e w4 ⟨rfl, hb⟩
    replace PX := Lib.hid (PX.out.below hb)
    replace B := bstep B hb
    clear hb N1
    clear c01 c02 c03 c09
    obtain ⟨⟨c01, c02, c03⟩, -, c09⟩ := PX.out
    go_wp2_with fail
    refine (O1.out _).mono ?_
    rintro e w5 ⟨rfl, hb⟩
    replace PX := Lib.hid (PX.out.below hb)
    replace B := bstep B hb
    clear hb O1
    clear c01 c02 c03 c09
    replace PX := Lib.hid (PX.out.alloc (DtC 0 0 0))
    have PZ := Lib.hid (HoldsT.new rfl : HoldsT (w5.alloc (DtC 0 0 0)) w5.heap.size 0 0 0)
    replace B := ballD1 B (DtC 0 0 0)
    go_upto_region 6 with fail
    change Code.wp _ _ _ _ (w5.alloc (DtC 0 0 0))
    generalize w5.alloc (DtC 0 0 0) = w6 at *
    obtain ⟨gPZ, hg⟩ : ∃ g, g = w5.heap.size := ⟨_, rfl⟩
    rw [← hg] at PZ ⊢
    clear hg
    obtain ⟨⟨c01, c02, c03⟩, -, c09⟩ := PX.out
    obtain ⟨⟨c11, c12, c13⟩, -, c19⟩ := PZ.out
    go_wp2
    go_ret
    exact ⟨rfl, B⟩
end Go.Proofs.Ytmikbdnjkfdodaa
