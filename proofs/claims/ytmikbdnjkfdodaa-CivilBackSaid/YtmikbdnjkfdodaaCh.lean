/-
  The statement CivilBack, walked: it answers true.
-/
import Derived.Test.YtmikbdnjkfdodaaCg
namespace Go.Proofs.Ytmikbdnjkfdodaa
open Go.RowKit

set_option maxRecDepth 100000 in
set_option maxHeartbeats 4000000 in
theorem civilBack_walk (n y m d : Int) (w : World) : Calls Try.prog 6 #[.int .i64 n, .int .i64 y, .int .i64 m, .int .i64 d] w (Ret (.bool true) w) := by
  have AW := Lib.hid awake6
  obtain ⟨Y, M, D, h1, K1⟩ := made y m d
  have MK := Lib.hid K1
  have N1 := Lib.hid (number_yes Y M D h1)
  have O1 := Lib.hid (of_num Y M D h1)
  have NF0 := number_yes (-999999999) 1 1 (by unfold Day; decide)
  rw [show numI (-999999999) 1 1 = -365243219162 by decide] at NF0
  have NL0 := number_yes 999999999 12 31 (by unfold Day; decide)
  rw [show numI 999999999 12 31 = 365241780471 by decide] at NL0
  have NF := Lib.hid NF0
  have NL := Lib.hid NL0
  generalize numI Y M D = a at *
  clear K1 h1 NF0 NL0
  go_enter Try.func6, Try.ntmps6
  go_wp2_with fail
  refine (AW.out _).mono ?_
  rintro e w1 ⟨rfl, hb⟩
  have B : Below w.heap.size w w1 := bstep (by go_grown) hb
  clear hb AW
  go_wp2_with fail
  refine (MK.out _).mono ?_
  rintro e w2 ⟨rfl, hb⟩
  replace B := bstep B hb
  clear hb MK
  have PX := Lib.hid (HoldsT.new rfl : HoldsT (w2.alloc (DtC Y M D)) w2.heap.size Y M D)
  replace B := ballD1 B (DtC Y M D)
  go_upto_region 4 with fail
  change Code.wp _ _ _ _ (w2.alloc (DtC Y M D))
  generalize w2.alloc (DtC Y M D) = w3 at *
  obtain ⟨gPX, hg⟩ : ∃ g, g = w2.heap.size := ⟨_, rfl⟩
  rw [← hg] at PX ⊢
  clear hg
  obtain ⟨⟨c01, c02, c03⟩, -, c09⟩ := PX.out
  go_wp2_with fail
  refine (N1.out _).mono ?_
  rintro e w4 ⟨rfl, hb⟩
  replace PX := Lib.hid (PX.out.below hb)
  replace B := bstep B hb
  clear hb N1
  clear c01 c02 c03 c09
  obtain ⟨⟨c01, c02, c03⟩, -, c09⟩ := PX.out
  go_wp2_with fail
  refine (O1.out _).mono ?_
  rintro e w5 ⟨rfl, hb⟩
  replace PX := Lib.hid (PX.out.below hb)
  replace B := bstep B hb
  clear hb O1
  clear c01 c02 c03 c09
  replace PX := Lib.hid (PX.out.alloc (DtC Y M D))
  have PZ := Lib.hid (HoldsT.new rfl : HoldsT (w5.alloc (DtC Y M D)) w5.heap.size Y M D)
  replace B := ballD1 B (DtC Y M D)
  go_upto_region 6 with fail
  change Code.wp _ _ _ _ (w5.alloc (DtC Y M D))
  generalize w5.alloc (DtC Y M D) = w6 at *
  obtain ⟨gPZ, hg⟩ : ∃ g, g = w5.heap.size := ⟨_, rfl⟩
  rw [← hg] at PZ ⊢
  clear hg
  obtain ⟨⟨c01, c02, c03⟩, -, c09⟩ := PX.out
  obtain ⟨⟨c11, c12, c13⟩, -, c19⟩ := PZ.out
  go_wp2_with fail
  refine (NF.out _).mono ?_
  rintro e w7 ⟨rfl, hb⟩
  replace PX := Lib.hid (PX.out.below hb)
  replace PZ := Lib.hid (PZ.out.below hb)
  replace B := bstep B hb
  clear hb NF
  clear c01 c02 c03 c09 c11 c12 c13 c19
  clear PX
  clear PZ
  go_wp2_with fail
  refine (NL.out _).mono ?_
  rintro e w8 ⟨rfl, hb⟩
  replace B := bstep B hb
  clear hb NL
  by_cases k : -365243219162 ≤ n ∧ n ≤ 365241780471
  · have t1 : decide (-365243219162 ≤ n) = true := decide_eq_true k.1
    have t2 : decide (n ≤ 365241780471) = true := decide_eq_true k.2
    have OS := Lib.hid (of_some n k.1 (by omega))
    clear k
    go_wp2_with fail
    refine (OS.out _).mono ?_
    rintro e w9 ⟨p, q, r, hd, hn, rfl, hb⟩
    replace B := bstep B hb
    clear hb OS
    have NW0 := number_yes p q r hd
    rw [hn] at NW0
    have NW := Lib.hid NW0
    have MD0 := mayDay_any p q r
    rw [may_day.2 hd] at MD0
    have MD := Lib.hid MD0
    clear hd hn NW0 MD0
    have PW := Lib.hid (HoldsT.new rfl : HoldsT (w9.alloc (DtC p q r)) w9.heap.size p q r)
    replace B := ballD1 B (DtC p q r)
    go_upto_region 11 with fail
    change Code.wp _ _ _ _ (w9.alloc (DtC p q r))
    generalize w9.alloc (DtC p q r) = w10 at *
    obtain ⟨gPW, hg⟩ : ∃ g, g = w9.heap.size := ⟨_, rfl⟩
    rw [← hg] at PW ⊢
    clear hg
    obtain ⟨⟨c01, c02, c03⟩, -, c09⟩ := PW.out
    go_wp2_with fail
    refine (NW.out _).mono ?_
    rintro e w11 ⟨rfl, hb⟩
    replace PW := Lib.hid (PW.out.below hb)
    replace B := bstep B hb
    clear hb NW
    clear c01 c02 c03 c09
    obtain ⟨⟨c01, c02, c03⟩, -, c09⟩ := PW.out
    go_wp2_with fail
    refine (MD.out _).mono ?_
    rintro e w12 ⟨rfl, hb⟩
    replace PW := Lib.hid (PW.out.below hb)
    replace B := bstep B hb
    clear hb MD
    clear c01 c02 c03 c09
    go_wp2
    go_ret
    exact ⟨rfl, B⟩
  · have ON := Lib.hid (of_none n (by omega))
    have t0 : decide (-365243219162 ≤ n) = false ∨ (decide (-365243219162 ≤ n) = true ∧ decide (n ≤ 365241780471) = false) := by
      by_cases q : -365243219162 ≤ n
      · exact .inr ⟨decide_eq_true q, decide_eq_false (by omega)⟩
      · exact .inl (decide_eq_false q)
    clear k
    rcases t0 with t1 | ⟨t1, t2⟩
    all_goals
      go_wp2_with fail
      refine (ON.out _).mono ?_
      rintro e w9 ⟨rfl, hb⟩
      replace B := bstep B hb
      clear hb ON
      have PW := Lib.hid (HoldsT.new rfl : HoldsT (w9.alloc (DtC 0 0 0)) w9.heap.size 0 0 0)
      replace B := ballD1 B (DtC 0 0 0)
      go_upto_region 11 with fail
      change Code.wp _ _ _ _ (w9.alloc (DtC 0 0 0))
      generalize w9.alloc (DtC 0 0 0) = w10 at *
      obtain ⟨gPW, hg⟩ : ∃ g, g = w9.heap.size := ⟨_, rfl⟩
      rw [← hg] at PW ⊢
      clear hg
      obtain ⟨⟨c01, c02, c03⟩, -, c09⟩ := PW.out
      go_wp2
      go_ret
      exact ⟨rfl, B⟩
end Go.Proofs.Ytmikbdnjkfdodaa
