/-
  Package moment: the moment of an instant (Of), one so many seconds later (Later), one so many months later (Months): each as a contract of its call.
-/
import Derived.Test.YtkkddflclakphaaDoorMb
namespace Go.Proofs.YtkkddflclakphaaDoor
open Go.RowKit

theorem may_zero {s : Int} {z : Bool} {o : Int} (h : mayM s z o = true) : mayM 0 z o = true := by
  unfold mayM at h ⊢
  simp only [Bool.and_eq_true, decide_eq_true_eq] at h ⊢
  exact ⟨⟨⟨⟨by omega, by omega⟩, h.1.1.2⟩, h.1.2⟩, h.2⟩
/-- Each day's number between the first and the last one is one day's. -/
theorem num_sur (n : Int) (h1 : -365243219162 ≤ n) (h2 : n < 365241780472) : ∃ y m d, Day y m d ∧ numI y m d = n := by
  have s := yof_spec n
  have yr := year_in h1 h2 s.1 s.2
  generalize yofI n = y at *
  rw [yst_step y] at s
  have c0 := cum_one y
  have c13 := cum_end y
  have key : ∀ m : Int, 1 ≤ m → m ≤ 12 → cumI y m ≤ n - yst y → n - yst y < cumI y (m + 1) → ∃ y m d, Day y m d ∧ numI y m d = n := by
    intro m a b c d
    have e := cum_step y a b
    refine ⟨y, m, n - yst y - cumI y m + 1, ⟨yr, ⟨a, b⟩, by omega, by omega⟩, ?_⟩
    unfold numI ydI
    omega
  by_cases k2 : n - yst y < cumI y 2
  · exact key 1 (by decide) (by decide) (by omega) k2
  by_cases k3 : n - yst y < cumI y 3
  · exact key 2 (by decide) (by decide) (by omega) k3
  by_cases k4 : n - yst y < cumI y 4
  · exact key 3 (by decide) (by decide) (by omega) k4
  by_cases k5 : n - yst y < cumI y 5
  · exact key 4 (by decide) (by decide) (by omega) k5
  by_cases k6 : n - yst y < cumI y 6
  · exact key 5 (by decide) (by decide) (by omega) k6
  by_cases k7 : n - yst y < cumI y 7
  · exact key 6 (by decide) (by decide) (by omega) k7
  by_cases k8 : n - yst y < cumI y 8
  · exact key 7 (by decide) (by decide) (by omega) k8
  by_cases k9 : n - yst y < cumI y 9
  · exact key 8 (by decide) (by decide) (by omega) k9
  by_cases k10 : n - yst y < cumI y 10
  · exact key 9 (by decide) (by decide) (by omega) k10
  by_cases k11 : n - yst y < cumI y 11
  · exact key 10 (by decide) (by decide) (by omega) k11
  by_cases k12 : n - yst y < cumI y 12
  · exact key 11 (by decide) (by decide) (by omega) k12
  exact key 12 (by decide) (by decide) (by omega) (by rw [show (12 : Int) + 1 = 13 from rfl, c13]; omega)

/-! ### Of -/
set_option maxRecDepth 100000 in
set_option maxHeartbeats 2000000 in
theorem ofN_yes (n ls : Int) (lz : Bool) (lo y m d : Int) (k : mayM ls lz lo = true) (hn : -72057594037927936 ≤ n ∧ n ≤ 72057594037927936) (h : Day y m d) (e : numI y m d = (n + lo) / 86400) (w : World) : Calls Tryd.prog 46 #[.int .i64 n, Tm ls lz lo] w (Ret (.tuple #[Mo y m d ((n + lo) % 86400) lz lo, .bool true]) w) := by
  have t1 : decide (n < -72057594037927936) = false := decide_eq_false (by omega)
  have t2 : decide (72057594037927936 < n) = false := decide_eq_false (by omega)
  have ro := may_off k
  have f1 : wrap64 (n + lo) = n + lo := I64.wrap' (by unfold I64; omega)
  have g1 : IntKind.i64.wrap (n + lo) = n + lo := I64.wrap (by unfold I64; omega)
  have LT0 := later_yes 0 lz lo (n + lo) (may_zero k) (by unfold I64; omega)
  rw [Int.zero_add] at LT0
  have MD0 := mayM_any ls lz lo
  rw [k] at MD0
  have OF0 := of_num y m d h
  rw [e] at OF0
  generalize (n + lo) % 86400 = S at *
  generalize (n + lo) / 86400 = D at *
  have LT := Lib.hid LT0
  have MD := Lib.hid MD0
  have OF := Lib.hid OF0
  clear LT0 MD0 OF0 hn ro e h k
  go_enter Tryd.func46, Tryd.ntmps46
  go_upto_region 1 with fail
  have PL := Lib.hid (HoldsM.alloc (HoldsM.new rfl) _ : HoldsM ((w.alloc (TmC ls lz lo)).alloc (MoC 0 0 0 0 false 0)) w.heap.size ls lz lo)
  have RS := Lib.hid (HoldsN.new (by simp) : HoldsN ((w.alloc (TmC ls lz lo)).alloc (MoC 0 0 0 0 false 0)) (w.heap.size + 1) 0 0 0 0 false 0)
  have B := ballD1 (ballD1 (Below.refl w.heap.size w) (TmC ls lz lo)) (MoC 0 0 0 0 false 0)
  change Code.wp _ _ _ _ ((w.alloc (TmC ls lz lo)).alloc (MoC 0 0 0 0 false 0))
  generalize ((w.alloc (TmC ls lz lo)).alloc (MoC 0 0 0 0 false 0)) = w0 at *
  obtain ⟨⟨c0_0, c0_1, c0_2⟩, -, c0z⟩ := PL.out
  obtain ⟨⟨c1_0, c1_1, c1_2, c1_3, c1_4, c1_5⟩, -, c1z⟩ := RS.out
  go_wp2_with fail
  refine (MD.out _).mono ?_
  rintro e w1 ⟨rfl, hb⟩
  replace PL := Lib.hid (PL.out.below hb)
  replace RS := Lib.hid (RS.out.below hb)
  replace B := bstep B hb
  clear hb MD
  clear c0_0 c0_1 c0_2 c0z c1_0 c1_1 c1_2 c1_3 c1_4 c1_5 c1z
  obtain ⟨⟨c0_0, c0_1, c0_2⟩, -, c0z⟩ := PL.out
  obtain ⟨⟨c1_0, c1_1, c1_2, c1_3, c1_4, c1_5⟩, -, c1z⟩ := RS.out
  replace PL := Lib.hid (PL.out.alloc (TmC 0 lz lo))
  replace RS := Lib.hid (RS.out.alloc (TmC 0 lz lo))
  have PM := Lib.hid (HoldsM.new rfl : HoldsM (w1.alloc (TmC 0 lz lo)) w1.heap.size 0 lz lo)
  replace B := ballD1 B (TmC 0 lz lo)
  go_upto_region 4 with fail
  change Code.wp _ _ _ _ (w1.alloc (TmC 0 lz lo))
  clear c0_0 c0_1 c0_2 c0z c1_0 c1_1 c1_2 c1_3 c1_4 c1_5 c1z
  generalize w1.alloc (TmC 0 lz lo) = w2 at *
  obtain ⟨gPM, hg⟩ : ∃ g, g = w1.heap.size := ⟨_, rfl⟩
  rw [← hg] at PM ⊢
  clear hg
  obtain ⟨⟨c0_0, c0_1, c0_2⟩, -, c0z⟩ := PL.out
  obtain ⟨⟨c1_0, c1_1, c1_2, c1_3, c1_4, c1_5⟩, -, c1z⟩ := RS.out
  obtain ⟨⟨c2_0, c2_1, c2_2⟩, -, c2z⟩ := PM.out
  go_wp2_with fail
  refine (LT.out _).mono ?_
  rintro e w3 ⟨rfl, hb⟩
  replace PL := Lib.hid (PL.out.below hb)
  replace RS := Lib.hid (RS.out.below hb)
  replace PM := Lib.hid (PM.out.below hb)
  replace B := bstep B hb
  clear hb LT
  clear c0_0 c0_1 c0_2 c0z c1_0 c1_1 c1_2 c1_3 c1_4 c1_5 c1z c2_0 c2_1 c2_2 c2z
  replace PL := Lib.hid (PL.out.alloc (TmC S lz lo))
  replace RS := Lib.hid (RS.out.alloc (TmC S lz lo))
  replace PM := Lib.hid (PM.out.alloc (TmC S lz lo))
  have PQ := Lib.hid (HoldsM.new rfl : HoldsM (w3.alloc (TmC S lz lo)) w3.heap.size S lz lo)
  replace B := ballD1 B (TmC S lz lo)
  go_upto_region 5 with fail
  change Code.wp _ _ _ _ (w3.alloc (TmC S lz lo))
  generalize w3.alloc (TmC S lz lo) = w4 at *
  obtain ⟨gPQ, hg⟩ : ∃ g, g = w3.heap.size := ⟨_, rfl⟩
  rw [← hg] at PQ ⊢
  clear hg
  obtain ⟨⟨c0_0, c0_1, c0_2⟩, -, c0z⟩ := PL.out
  obtain ⟨⟨c1_0, c1_1, c1_2, c1_3, c1_4, c1_5⟩, -, c1z⟩ := RS.out
  obtain ⟨⟨c2_0, c2_1, c2_2⟩, -, c2z⟩ := PM.out
  obtain ⟨⟨c3_0, c3_1, c3_2⟩, -, c3z⟩ := PQ.out
  go_wp2_with fail
  refine (OF.out _).mono ?_
  rintro e w5 ⟨rfl, hb⟩
  replace PL := Lib.hid (PL.out.below hb)
  replace RS := Lib.hid (RS.out.below hb)
  replace PM := Lib.hid (PM.out.below hb)
  replace PQ := Lib.hid (PQ.out.below hb)
  replace B := bstep B hb
  clear hb OF
  clear c0_0 c0_1 c0_2 c0z c1_0 c1_1 c1_2 c1_3 c1_4 c1_5 c1z c2_0 c2_1 c2_2 c2z c3_0 c3_1 c3_2 c3z
  replace PL := Lib.hid (PL.out.alloc (DtC y m d))
  replace RS := Lib.hid (RS.out.alloc (DtC y m d))
  replace PM := Lib.hid (PM.out.alloc (DtC y m d))
  replace PQ := Lib.hid (PQ.out.alloc (DtC y m d))
  have PD := Lib.hid (HoldsT.new rfl : HoldsT (w5.alloc (DtC y m d)) w5.heap.size y m d)
  replace B := ballD1 B (DtC y m d)
  go_upto_region 6 with fail
  change Code.wp _ _ _ _ (w5.alloc (DtC y m d))
  generalize w5.alloc (DtC y m d) = w6 at *
  obtain ⟨gPD, hg⟩ : ∃ g, g = w5.heap.size := ⟨_, rfl⟩
  rw [← hg] at PD ⊢
  clear hg
  obtain ⟨⟨c0_0, c0_1, c0_2⟩, -, c0z⟩ := PL.out
  obtain ⟨⟨c1_0, c1_1, c1_2, c1_3, c1_4, c1_5⟩, ⟨c1f0, c1f1, c1f2, c1f3, c1f4, c1f5⟩, c1z⟩ := RS.out
  obtain ⟨⟨c2_0, c2_1, c2_2⟩, -, c2z⟩ := PM.out
  obtain ⟨⟨c3_0, c3_1, c3_2⟩, -, c3z⟩ := PQ.out
  obtain ⟨⟨c4_0, c4_1, c4_2⟩, -, c4z⟩ := PD.out
  go_wp2
  refine ret_via (v := .tuple #[Mo y m d S lz lo, .bool true]) (fun V => HoldsN V (w.heap.size + 1) y m d S lz lo) (fun VF hq => ?_) RS.out.put rfl ⟨rfl, B6 B (by omega) _ _ _ _ _ _⟩
  obtain ⟨⟨d0, d1, d2, d3, d4, d5⟩, -, -⟩ := hq
  simp [results, Tryd.results46, go_sem, d0, d1, d2, d3, d4, d5]
set_option maxRecDepth 100000 in
set_option maxHeartbeats 2000000 in
theorem ofN_far (n ls : Int) (lz : Bool) (lo : Int) (k : mayM ls lz lo = true) (hn : -72057594037927936 ≤ n ∧ n ≤ 72057594037927936) (e : (n + lo) / 86400 < -365243219162 ∨ 365241780472 ≤ (n + lo) / 86400) (w : World) : Calls Tryd.prog 46 #[.int .i64 n, Tm ls lz lo] w (Ret (.tuple #[Mo 0 0 0 0 false 0, .bool false]) w) := by
  have t1 : decide (n < -72057594037927936) = false := decide_eq_false (by omega)
  have t2 : decide (72057594037927936 < n) = false := decide_eq_false (by omega)
  have ro := may_off k
  have f1 : wrap64 (n + lo) = n + lo := I64.wrap' (by unfold I64; omega)
  have g1 : IntKind.i64.wrap (n + lo) = n + lo := I64.wrap (by unfold I64; omega)
  have LT0 := later_yes 0 lz lo (n + lo) (may_zero k) (by unfold I64; omega)
  rw [Int.zero_add] at LT0
  have MD0 := mayM_any ls lz lo
  rw [k] at MD0
  have OF0 := of_none ((n + lo) / 86400) e
  clear e
  generalize (n + lo) % 86400 = S at *
  generalize (n + lo) / 86400 = D at *
  have LT := Lib.hid LT0
  have MD := Lib.hid MD0
  have OF := Lib.hid OF0
  clear LT0 MD0 OF0 hn ro k
  go_enter Tryd.func46, Tryd.ntmps46
  go_upto_region 1 with fail
  have PL := Lib.hid (HoldsM.alloc (HoldsM.new rfl) _ : HoldsM ((w.alloc (TmC ls lz lo)).alloc (MoC 0 0 0 0 false 0)) w.heap.size ls lz lo)
  have RS := Lib.hid (HoldsN.new (by simp) : HoldsN ((w.alloc (TmC ls lz lo)).alloc (MoC 0 0 0 0 false 0)) (w.heap.size + 1) 0 0 0 0 false 0)
  have B := ballD1 (ballD1 (Below.refl w.heap.size w) (TmC ls lz lo)) (MoC 0 0 0 0 false 0)
  change Code.wp _ _ _ _ ((w.alloc (TmC ls lz lo)).alloc (MoC 0 0 0 0 false 0))
  generalize ((w.alloc (TmC ls lz lo)).alloc (MoC 0 0 0 0 false 0)) = w0 at *
  obtain ⟨⟨c0_0, c0_1, c0_2⟩, -, c0z⟩ := PL.out
  obtain ⟨⟨c1_0, c1_1, c1_2, c1_3, c1_4, c1_5⟩, -, c1z⟩ := RS.out
  go_wp2_with fail
  refine (MD.out _).mono ?_
  rintro e w1 ⟨rfl, hb⟩
  replace PL := Lib.hid (PL.out.below hb)
  replace RS := Lib.hid (RS.out.below hb)
  replace B := bstep B hb
  clear hb MD
  clear c0_0 c0_1 c0_2 c0z c1_0 c1_1 c1_2 c1_3 c1_4 c1_5 c1z
  obtain ⟨⟨c0_0, c0_1, c0_2⟩, -, c0z⟩ := PL.out
  obtain ⟨⟨c1_0, c1_1, c1_2, c1_3, c1_4, c1_5⟩, -, c1z⟩ := RS.out
  replace PL := Lib.hid (PL.out.alloc (TmC 0 lz lo))
  replace RS := Lib.hid (RS.out.alloc (TmC 0 lz lo))
  have PM := Lib.hid (HoldsM.new rfl : HoldsM (w1.alloc (TmC 0 lz lo)) w1.heap.size 0 lz lo)
  replace B := ballD1 B (TmC 0 lz lo)
  go_upto_region 4 with fail
  change Code.wp _ _ _ _ (w1.alloc (TmC 0 lz lo))
  clear c0_0 c0_1 c0_2 c0z c1_0 c1_1 c1_2 c1_3 c1_4 c1_5 c1z
  generalize w1.alloc (TmC 0 lz lo) = w2 at *
  obtain ⟨gPM, hg⟩ : ∃ g, g = w1.heap.size := ⟨_, rfl⟩
  rw [← hg] at PM ⊢
  clear hg
  obtain ⟨⟨c0_0, c0_1, c0_2⟩, -, c0z⟩ := PL.out
  obtain ⟨⟨c1_0, c1_1, c1_2, c1_3, c1_4, c1_5⟩, -, c1z⟩ := RS.out
  obtain ⟨⟨c2_0, c2_1, c2_2⟩, -, c2z⟩ := PM.out
  go_wp2_with fail
  refine (LT.out _).mono ?_
  rintro e w3 ⟨rfl, hb⟩
  replace PL := Lib.hid (PL.out.below hb)
  replace RS := Lib.hid (RS.out.below hb)
  replace PM := Lib.hid (PM.out.below hb)
  replace B := bstep B hb
  clear hb LT
  clear c0_0 c0_1 c0_2 c0z c1_0 c1_1 c1_2 c1_3 c1_4 c1_5 c1z c2_0 c2_1 c2_2 c2z
  replace PL := Lib.hid (PL.out.alloc (TmC S lz lo))
  replace RS := Lib.hid (RS.out.alloc (TmC S lz lo))
  replace PM := Lib.hid (PM.out.alloc (TmC S lz lo))
  have PQ := Lib.hid (HoldsM.new rfl : HoldsM (w3.alloc (TmC S lz lo)) w3.heap.size S lz lo)
  replace B := ballD1 B (TmC S lz lo)
  go_upto_region 5 with fail
  change Code.wp _ _ _ _ (w3.alloc (TmC S lz lo))
  generalize w3.alloc (TmC S lz lo) = w4 at *
  obtain ⟨gPQ, hg⟩ : ∃ g, g = w3.heap.size := ⟨_, rfl⟩
  rw [← hg] at PQ ⊢
  clear hg
  obtain ⟨⟨c0_0, c0_1, c0_2⟩, -, c0z⟩ := PL.out
  obtain ⟨⟨c1_0, c1_1, c1_2, c1_3, c1_4, c1_5⟩, -, c1z⟩ := RS.out
  obtain ⟨⟨c2_0, c2_1, c2_2⟩, -, c2z⟩ := PM.out
  obtain ⟨⟨c3_0, c3_1, c3_2⟩, -, c3z⟩ := PQ.out
  go_wp2_with fail
  refine (OF.out _).mono ?_
  rintro e w5 ⟨rfl, hb⟩
  replace PL := Lib.hid (PL.out.below hb)
  replace RS := Lib.hid (RS.out.below hb)
  replace PM := Lib.hid (PM.out.below hb)
  replace PQ := Lib.hid (PQ.out.below hb)
  replace B := bstep B hb
  clear hb OF
  clear c0_0 c0_1 c0_2 c0z c1_0 c1_1 c1_2 c1_3 c1_4 c1_5 c1z c2_0 c2_1 c2_2 c2z c3_0 c3_1 c3_2 c3z
  replace PL := Lib.hid (PL.out.alloc (DtC 0 0 0))
  replace RS := Lib.hid (RS.out.alloc (DtC 0 0 0))
  replace PM := Lib.hid (PM.out.alloc (DtC 0 0 0))
  replace PQ := Lib.hid (PQ.out.alloc (DtC 0 0 0))
  have PD := Lib.hid (HoldsT.new rfl : HoldsT (w5.alloc (DtC 0 0 0)) w5.heap.size 0 0 0)
  replace B := ballD1 B (DtC 0 0 0)
  go_upto_region 6 with fail
  change Code.wp _ _ _ _ (w5.alloc (DtC 0 0 0))
  generalize w5.alloc (DtC 0 0 0) = w6 at *
  obtain ⟨gPD, hg⟩ : ∃ g, g = w5.heap.size := ⟨_, rfl⟩
  rw [← hg] at PD ⊢
  clear hg
  obtain ⟨⟨c0_0, c0_1, c0_2⟩, -, c0z⟩ := PL.out
  obtain ⟨⟨c1_0, c1_1, c1_2, c1_3, c1_4, c1_5⟩, ⟨c1f0, c1f1, c1f2, c1f3, c1f4, c1f5⟩, c1z⟩ := RS.out
  obtain ⟨⟨c2_0, c2_1, c2_2⟩, -, c2z⟩ := PM.out
  obtain ⟨⟨c3_0, c3_1, c3_2⟩, -, c3z⟩ := PQ.out
  obtain ⟨⟨c4_0, c4_1, c4_2⟩, -, c4z⟩ := PD.out
  go_wp2
  refine ret_via (v := .tuple #[Mo 0 0 0 0 false 0, .bool false]) (fun V => HoldsN V (w.heap.size + 1) 0 0 0 0 false 0) (fun VF hq => ?_) RS.out.put rfl ⟨rfl, B6 B (by omega) _ _ _ _ _ _⟩
  obtain ⟨⟨d0, d1, d2, d3, d4, d5⟩, -, -⟩ := hq
  simp [results, Tryd.results46, go_sem, d0, d1, d2, d3, d4, d5]
set_option maxRecDepth 100000 in
set_option maxHeartbeats 2000000 in
theorem ofN_bad (n ls : Int) (lz : Bool) (lo : Int) (h : mayM ls lz lo = false ∨ n < -72057594037927936 ∨ 72057594037927936 < n) (w : World) : Calls Tryd.prog 46 #[.int .i64 n, Tm ls lz lo] w (Ret (.tuple #[Mo 0 0 0 0 false 0, .bool false]) w) := by
  have MD0 := mayM_any ls lz lo
  have any : (!mayM ls lz lo || decide (n < -72057594037927936) || decide (72057594037927936 < n)) = true := by
    rcases h with h | h | h <;> simp [h]
  obtain ⟨p, hp⟩ : ∃ p, decide (n < -72057594037927936) = p := ⟨_, rfl⟩
  obtain ⟨q, hq⟩ : ∃ q, decide (72057594037927936 < n) = q := ⟨_, rfl⟩
  rw [hp, hq] at any
  generalize mayM ls lz lo = c at *
  have MD := Lib.hid MD0
  clear MD0 h
  go_enter Tryd.func46, Tryd.ntmps46
  go_upto_region 1 with fail
  have PL := Lib.hid (HoldsM.alloc (HoldsM.new rfl) _ : HoldsM ((w.alloc (TmC ls lz lo)).alloc (MoC 0 0 0 0 false 0)) w.heap.size ls lz lo)
  have RS := Lib.hid (HoldsN.new (by simp) : HoldsN ((w.alloc (TmC ls lz lo)).alloc (MoC 0 0 0 0 false 0)) (w.heap.size + 1) 0 0 0 0 false 0)
  have B := ballD1 (ballD1 (Below.refl w.heap.size w) (TmC ls lz lo)) (MoC 0 0 0 0 false 0)
  change Code.wp _ _ _ _ ((w.alloc (TmC ls lz lo)).alloc (MoC 0 0 0 0 false 0))
  generalize ((w.alloc (TmC ls lz lo)).alloc (MoC 0 0 0 0 false 0)) = w0 at *
  obtain ⟨⟨c0_0, c0_1, c0_2⟩, -, c0z⟩ := PL.out
  obtain ⟨⟨c1_0, c1_1, c1_2, c1_3, c1_4, c1_5⟩, -, c1z⟩ := RS.out
  go_wp2_with fail
  refine (MD.out _).mono ?_
  rintro e w1 ⟨rfl, hb⟩
  replace PL := Lib.hid (PL.out.below hb)
  replace RS := Lib.hid (RS.out.below hb)
  replace B := bstep B hb
  clear hb MD
  clear c0_0 c0_1 c0_2 c0z c1_0 c1_1 c1_2 c1_3 c1_4 c1_5 c1z
  cases c <;> cases p <;> cases q
  case true.false.false => cases any
  all_goals
    obtain ⟨⟨c0_0, c0_1, c0_2⟩, -, c0z⟩ := PL.out
    obtain ⟨⟨c1_0, c1_1, c1_2, c1_3, c1_4, c1_5⟩, ⟨c1f0, c1f1, c1f2, c1f3, c1f4, c1f5⟩, c1z⟩ := RS.out
    go_wp2
    refine ret_via (v := .tuple #[Mo 0 0 0 0 false 0, .bool false]) (fun V => HoldsN V (w.heap.size + 1) 0 0 0 0 false 0) (fun VF hq => ?_) RS.out.put rfl ⟨rfl, B6 B (by omega) _ _ _ _ _ _⟩
    obtain ⟨⟨d0, d1, d2, d3, d4, d5⟩, -, -⟩ := hq
    simp [results, Tryd.results46, go_sem, d0, d1, d2, d3, d4, d5]
/-- What Of answers of any instant and time. -/
theorem ofN_some (n ls : Int) (lz : Bool) (lo : Int) : (∀ w : World, Calls Tryd.prog 46 #[.int .i64 n, Tm ls lz lo] w (Ret (.tuple #[Mo 0 0 0 0 false 0, .bool false]) w)) ∧ (mayM ls lz lo = false ∨ (n < -18014398509481984 ∨ 18014398509481984 < n)) ∨ ∃ y m d, Day y m d ∧ mayM ls lz lo = true ∧ numI y m d = (n + lo) / 86400 ∧ (-72057594037927936 ≤ n ∧ n ≤ 72057594037927936) ∧ ∀ w : World, Calls Tryd.prog 46 #[.int .i64 n, Tm ls lz lo] w (Ret (.tuple #[Mo y m d ((n + lo) % 86400) lz lo, .bool true]) w) := by
  cases k : mayM ls lz lo
  · exact .inl ⟨ofN_bad n ls lz lo (.inl k), .inl rfl⟩
  have ro := may_off k
  by_cases a : n < -72057594037927936
  · exact .inl ⟨ofN_bad n ls lz lo (.inr (.inl a)), .inr (.inl (by omega))⟩
  by_cases b : 72057594037927936 < n
  · exact .inl ⟨ofN_bad n ls lz lo (.inr (.inr b)), .inr (.inr (by omega))⟩
  by_cases c : (n + lo) / 86400 < -365243219162
  · exact .inl ⟨ofN_far n ls lz lo k ⟨by omega, by omega⟩ (.inl c), .inr (.inl (by omega))⟩
  by_cases d : 365241780472 ≤ (n + lo) / 86400
  · exact .inl ⟨ofN_far n ls lz lo k ⟨by omega, by omega⟩ (.inr d), .inr (.inr (by omega))⟩
  obtain ⟨y, m, e, h, hn⟩ := num_sur ((n + lo) / 86400) (by omega) (by omega)
  exact .inr ⟨y, m, e, h, rfl, hn, ⟨by omega, by omega⟩, ofN_yes n ls lz lo y m e k ⟨by omega, by omega⟩ h hn⟩

/-! ### Later -/
set_option maxRecDepth 100000 in
set_option maxHeartbeats 2000000 in
theorem laterN_of (y m d s : Int) (z : Bool) (o n : Int) (h : Day y m d) (k : mayM s z o = true) (hn : -9007199254740992 ≤ n ∧ n ≤ 9007199254740992) (Y M D S : Int) (Z : Bool) (O : Int) (ok : Bool) (OF0 : ∀ w : World, Calls Tryd.prog 46 #[.int .i64 (instI y m d s o + n), Tm s z o] w (Ret (.tuple #[Mo Y M D S Z O, .bool ok]) w)) (w : World) : Calls Tryd.prog 23 #[Mo y m d s z o, .int .i64 n] w (Ret (.tuple #[Mo Y M D S Z O, .bool ok]) w) := by
  have t1 : decide (n < -9007199254740992) = false := decide_eq_false (by omega)
  have t2 : decide (9007199254740992 < n) = false := decide_eq_false (by omega)
  have r := inst_range h k
  have IN0 := instant_yes y m d s z o h k
  generalize instI y m d s o = I at *
  have f1 : wrap64 (I + n) = I + n := I64.wrap' (by unfold I64; omega)
  have g1 : IntKind.i64.wrap (I + n) = I + n := I64.wrap (by unfold I64; omega)
  have IN := Lib.hid IN0
  have OF := Lib.hid OF0
  clear IN0 OF0 hn r h k
  go_enter Tryd.func23, Tryd.ntmps23
  go_upto_region 1 with fail
  have PA := Lib.hid (HoldsN.alloc (HoldsN.new rfl) _ : HoldsN ((w.alloc (MoC y m d s z o)).alloc (MoC 0 0 0 0 false 0)) w.heap.size y m d s z o)
  have RS := Lib.hid (HoldsN.new (by simp) : HoldsN ((w.alloc (MoC y m d s z o)).alloc (MoC 0 0 0 0 false 0)) (w.heap.size + 1) 0 0 0 0 false 0)
  have B := ballD1 (ballD1 (Below.refl w.heap.size w) (MoC y m d s z o)) (MoC 0 0 0 0 false 0)
  change Code.wp _ _ _ _ ((w.alloc (MoC y m d s z o)).alloc (MoC 0 0 0 0 false 0))
  generalize ((w.alloc (MoC y m d s z o)).alloc (MoC 0 0 0 0 false 0)) = w0 at *
  obtain ⟨⟨c0_0, c0_1, c0_2, c0_3, c0_4, c0_5⟩, -, c0z⟩ := PA.out
  obtain ⟨⟨c1_0, c1_1, c1_2, c1_3, c1_4, c1_5⟩, -, c1z⟩ := RS.out
  go_wp2_with fail
  refine (IN.out _).mono ?_
  rintro e w1 ⟨rfl, hb⟩
  replace PA := Lib.hid (PA.out.below hb)
  replace RS := Lib.hid (RS.out.below hb)
  replace B := bstep B hb
  clear hb IN
  clear c0_0 c0_1 c0_2 c0_3 c0_4 c0_5 c0z c1_0 c1_1 c1_2 c1_3 c1_4 c1_5 c1z
  obtain ⟨⟨c0_0, c0_1, c0_2, c0_3, c0_4, c0_5⟩, -, c0z⟩ := PA.out
  obtain ⟨⟨c1_0, c1_1, c1_2, c1_3, c1_4, c1_5⟩, -, c1z⟩ := RS.out
  go_wp2_with fail
  refine (OF.out _).mono ?_
  rintro e w2 ⟨rfl, hb⟩
  replace PA := Lib.hid (PA.out.below hb)
  replace RS := Lib.hid (RS.out.below hb)
  replace B := bstep B hb
  clear hb OF
  clear c0_0 c0_1 c0_2 c0_3 c0_4 c0_5 c0z c1_0 c1_1 c1_2 c1_3 c1_4 c1_5 c1z
  obtain ⟨⟨c0_0, c0_1, c0_2, c0_3, c0_4, c0_5⟩, -, c0z⟩ := PA.out
  obtain ⟨⟨c1_0, c1_1, c1_2, c1_3, c1_4, c1_5⟩, ⟨c1f0, c1f1, c1f2, c1f3, c1f4, c1f5⟩, c1z⟩ := RS.out
  go_wp2
  refine ret_via (v := .tuple #[Mo Y M D S Z O, .bool ok]) (fun V => HoldsN V (w.heap.size + 1) Y M D S Z O) (fun VF hq => ?_) RS.out.put rfl ⟨rfl, B6 B (by omega) _ _ _ _ _ _⟩
  obtain ⟨⟨d0, d1, d2, d3, d4, d5⟩, -, -⟩ := hq
  simp [results, Tryd.results23, go_sem, d0, d1, d2, d3, d4, d5]
set_option maxRecDepth 100000 in
set_option maxHeartbeats 2000000 in
theorem laterN_bad (y m d s : Int) (z : Bool) (o n : Int) (h : mayN y m d s z o = false ∨ n < -9007199254740992 ∨ 9007199254740992 < n) (w : World) : Calls Tryd.prog 23 #[Mo y m d s z o, .int .i64 n] w (Ret (.tuple #[Mo 0 0 0 0 false 0, .bool false]) w) := by
  have IN0 := instant_any y m d s z o
  have any : (!mayN y m d s z o || decide (n < -9007199254740992) || decide (9007199254740992 < n)) = true := by
    rcases h with h | h | h <;> simp [h]
  obtain ⟨p, hp⟩ : ∃ p, decide (n < -9007199254740992) = p := ⟨_, rfl⟩
  obtain ⟨q, hq⟩ : ∃ q, decide (9007199254740992 < n) = q := ⟨_, rfl⟩
  rw [hp, hq] at any
  generalize insV y m d s z o = I at *
  generalize mayN y m d s z o = c at *
  have IN := Lib.hid IN0
  clear IN0 h
  go_enter Tryd.func23, Tryd.ntmps23
  go_upto_region 1 with fail
  have PA := Lib.hid (HoldsN.alloc (HoldsN.new rfl) _ : HoldsN ((w.alloc (MoC y m d s z o)).alloc (MoC 0 0 0 0 false 0)) w.heap.size y m d s z o)
  have RS := Lib.hid (HoldsN.new (by simp) : HoldsN ((w.alloc (MoC y m d s z o)).alloc (MoC 0 0 0 0 false 0)) (w.heap.size + 1) 0 0 0 0 false 0)
  have B := ballD1 (ballD1 (Below.refl w.heap.size w) (MoC y m d s z o)) (MoC 0 0 0 0 false 0)
  change Code.wp _ _ _ _ ((w.alloc (MoC y m d s z o)).alloc (MoC 0 0 0 0 false 0))
  generalize ((w.alloc (MoC y m d s z o)).alloc (MoC 0 0 0 0 false 0)) = w0 at *
  obtain ⟨⟨c0_0, c0_1, c0_2, c0_3, c0_4, c0_5⟩, -, c0z⟩ := PA.out
  obtain ⟨⟨c1_0, c1_1, c1_2, c1_3, c1_4, c1_5⟩, -, c1z⟩ := RS.out
  go_wp2_with fail
  refine (IN.out _).mono ?_
  rintro e w1 ⟨rfl, hb⟩
  replace PA := Lib.hid (PA.out.below hb)
  replace RS := Lib.hid (RS.out.below hb)
  replace B := bstep B hb
  clear hb IN
  clear c0_0 c0_1 c0_2 c0_3 c0_4 c0_5 c0z c1_0 c1_1 c1_2 c1_3 c1_4 c1_5 c1z
  cases c <;> cases p <;> cases q
  case true.false.false => cases any
  all_goals
    obtain ⟨⟨c0_0, c0_1, c0_2, c0_3, c0_4, c0_5⟩, -, c0z⟩ := PA.out
    obtain ⟨⟨c1_0, c1_1, c1_2, c1_3, c1_4, c1_5⟩, ⟨c1f0, c1f1, c1f2, c1f3, c1f4, c1f5⟩, c1z⟩ := RS.out
    go_wp2
    refine ret_via (v := .tuple #[Mo 0 0 0 0 false 0, .bool false]) (fun V => HoldsN V (w.heap.size + 1) 0 0 0 0 false 0) (fun VF hq => ?_) RS.out.put rfl ⟨rfl, B6 B (by omega) _ _ _ _ _ _⟩
    obtain ⟨⟨d0, d1, d2, d3, d4, d5⟩, -, -⟩ := hq
    simp [results, Tryd.results23, go_sem, d0, d1, d2, d3, d4, d5]

end Go.Proofs.YtkkddflclakphaaDoor
