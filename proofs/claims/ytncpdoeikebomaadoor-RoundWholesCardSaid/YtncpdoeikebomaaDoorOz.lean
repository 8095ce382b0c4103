/-
  Several texts in one: each one's own remark stands ahead of it.
-/
import Derived.Test.YtncpdoeikebomaaDoorEm
import Derived.Test.YtncpdoeikebomaaDoorVall
import Derived.Deep.RegionHeld3
/-
  Small numbers (of of the laws of layers 3, 4 and 5), each as a contract of its call.
-/
namespace Go.Proofs.YtncpdoeikebomaaDoor
open Go.RowKit

set_option maxHeartbeats 400000 in
theorem of3 (c : Nat) (x : Int) (w : World) : Calls Tryd.prog 29 #[.int .u64 (c : Int), .int .i64 x] w (RetD (fun n h' l' x' => n = false ∧ h' = 0 ∧ l' = c ∧ x' = x) w) := by
  go_enter Tryd.func29, Tryd.ntmps29
  go_wp2_with fail
  refine (of_any c _).mono ?_
  rintro e w1 ⟨rfl, o, rfl⟩
  go_wp2
  refine bodyPost_ret (v := Dv false 0 c x) (by simp [results, Tryd.results29, go_sem, *]) rfl ⟨_, _, _, _, ⟨rfl, rfl, rfl, rfl⟩, rfl, ?_⟩
  go_grown

set_option maxHeartbeats 400000 in
theorem of4 (c : Nat) (x : Int) (w : World) : Calls Tryd.prog 44 #[.int .u64 (c : Int), .int .i64 x] w (RetD (fun n h' l' x' => n = false ∧ h' = 0 ∧ l' = c ∧ x' = x) w) := by
  go_enter Tryd.func44, Tryd.ntmps44
  go_wp2_with fail
  refine (of_any c _).mono ?_
  rintro e w1 ⟨rfl, o, rfl⟩
  go_wp2
  refine bodyPost_ret (v := Dv false 0 c x) (by simp [results, Tryd.results44, go_sem, *]) rfl ⟨_, _, _, _, ⟨rfl, rfl, rfl, rfl⟩, rfl, ?_⟩
  go_grown
end Go.Proofs.YtncpdoeikebomaaDoor

/-
  The document's examples of layer 4 (awake of the laws), as a contract of the call.
-/
namespace Go.Proofs.YtncpdoeikebomaaDoor
open Go.RowKit

theorem ex_sc1 : scF 1 false 2345 (-3) (-2) = some (false, 234, -2) := by decide +kernel
theorem ex_sc2 : scF 4 false 15 (-1) (-3) = some (false, 1500, -3) := by decide +kernel
theorem ex_fl : rwF 6 true 15 (-1) = (true, 2, 0) := by decide +kernel
theorem ex_fl24 : rwF 6 true 24 (-1) = (true, 3, 0) := by decide +kernel
theorem ex_m15 : mulF false 5 0 true 3 0 = some (true, 15, 0) := by decide +kernel
theorem ex_a3 : addF true 12 0 (!true && !decide (15 = 0)) 15 0 = some (false, 3, 0) := by decide +kernel
theorem ex_ev : (exB false 20 (-1) && !oddT (rwF 5 false 20 (-1))) = true := by decide +kernel
theorem ex_od : (exB false 15 (-1) && oddT (rwF 5 false 15 (-1))) = false := by decide +kernel
theorem ex_mod (o : Option (Bool × Nat × Int)) (M : ModP true 12 0 false 5 0 o) : o = some (false, 3, 0) := by
  obtain ⟨q, D, e⟩ := M
  have k := DivP_exact (c := 24) (k := 1) D (by decide) (by decide) (by decide) (by decide) (by decide) (by unfold plD; rw [nd_of (n := 12) (k := 1) (by decide) (by decide), nd1 (c := 5) (by decide) (by decide)]; decide) (.inr (by decide))
  rw [show (true != false) = true from rfl, fitF_self ⟨by decide, by decide, by decide⟩ (fun h => absurd h (by decide))] at k
  rw [e, k, show ((0 : Int) - 0 - ((1 : Nat) : Int)) = -1 from rfl, modQ_some false 5 0 ex_fl24, ex_m15, modM_some, ex_a3]
theorem scale_small (m : Nat) (hm : m = 1 ∨ m = 2 ∨ m = 3 ∨ m = 4 ∨ m = 5 ∨ m = 6 ∨ m = 7) (a : Nat) (x k : Int) (ha : a < 18446744073709551616) (h1 : NumD a x) (k1 : -6111 ≤ k) (k2 : k ≤ 6176) {r : Option (Bool × Nat × Int)} (h : scF m false a x (-k) = r) (w : World) (ht : Tab w) :
    Calls Tryd.prog 15 #[Dv false 0 a x, .int .i64 k, .int .i64 (m : Int)] w (RetDO r w) := by
  have q := scale_any m hm false 0 a x k (ww1 ha) (by rw [nv01]; exact h1) k1 k2 w ht
  rw [nv01, h] at q
  exact q
theorem mod12 (w : World) (ht : Tab w) : Calls Tryd.prog 45 #[Dv true 0 12 0, Dv false 0 5 0] w (RetDO (some (false, 3, 0)) w) := by
  have q := modulo_any true 0 12 0 false 0 5 0 (ww1 (by decide)) (ww1 (by decide)) (by rw [nv01]; decide) (by rw [nv01]; decide) w ht
  rw [nv01, nv01] at q
  exact q.mono fun e w' H => RetDP.det ex_mod H
def RetV (v : Value) (w : World) (e : Ending) (w' : World) : Prop := e = .returned v ∧ Below w.heap.size w w'
theorem of4I (c : Nat) (x : Int) (w : World) (c' : Int) (hc : c' = (c : Int)) : Calls Tryd.prog 44 #[.int .u64 c', .int .i64 x] w (RetV (.agg #[.bool false, .int .u64 0, .int .u64 c', .int .i64 x]) w) := by
  subst hc
  refine (of4 c x w).mono ?_
  rintro e w1 ⟨n, h, l, x', ⟨rfl, rfl, rfl, rfl⟩, rfl, hb⟩
  exact ⟨rfl, hb⟩
theorem neg15 (w : World) : Calls Tryd.prog 27 #[.agg #[.bool false, .int .u64 0, .int .u64 15, .int .i64 (-1)]] w (RetV (.agg #[.bool true, .int .u64 0, .int .u64 15, .int .i64 (-1)]) w) := by
  refine (show Calls Tryd.prog 27 #[Dv false 0 15 (-1)] w _ from neg_any false 0 15 (-1) w).mono ?_
  rintro e w1 ⟨n, h, l, x', ⟨rfl, rfl, rfl, rfl⟩, rfl, hb⟩
  exact ⟨rfl, hb⟩
theorem floor15 (w : World) (ht : Tab w) : Calls Tryd.prog 22 #[.agg #[.bool true, .int .u64 0, .int .u64 15, .int .i64 (-1)]] w (RetV (.agg #[.bool true, .int .u64 0, .int .u64 2, .int .i64 0]) w) := by
  have q := floor_r true 0 15 (-1) (ww1 (by decide)) (by rw [nv01]; decide) w ht
  rw [nv01, ex_fl] at q
  refine (show Calls Tryd.prog 22 #[Dv true 0 15 (-1)] w _ from q).mono ?_
  rintro e w1 ⟨n, h, l, x', W, eq, rfl, hb⟩
  simp only [Prod.mk.injEq] at eq
  obtain ⟨rfl, e2, rfl⟩ := eq
  obtain ⟨rfl, rfl⟩ := nv_inj W (ww1 (c := 2) (by decide)) (e2.trans (nv01 2).symm)
  exact ⟨rfl, hb⟩
theorem intm2 (w : World) : Calls Tryd.prog 25 #[.int .i64 (-2)] w (RetV (.agg #[.bool true, .int .u64 0, .int .u64 2, .int .i64 0]) w) := by
  refine (show Calls Tryd.prog 25 #[.int .i64 (-((2 : Nat) : Int))] w _ from int_neg 2 (by decide) (by decide) w).mono ?_
  rintro e w1 ⟨n, h, l, x', ⟨rfl, rfl, rfl, rfl⟩, rfl, hb⟩
  exact ⟨rfl, hb⟩
theorem int3 (w : World) : Calls Tryd.prog 25 #[.int .i64 3] w (RetV (.agg #[.bool false, .int .u64 0, .int .u64 3, .int .i64 0]) w) := by
  refine (show Calls Tryd.prog 25 #[.int .i64 ((3 : Nat) : Int)] w _ from int_yes 3 (by decide) w).mono ?_
  rintro e w1 ⟨n, h, l, x', ⟨rfl, rfl, rfl, rfl⟩, rfl, hb⟩
  exact ⟨rfl, hb⟩
theorem even20 (w : World) (ht : Tab w) : Calls Tryd.prog 20 #[.agg #[.bool false, .int .u64 0, .int .u64 20, .int .i64 (-1)]] w (RetB true w) := by
  have q := even_r false 0 20 (-1) (ww1 (by decide)) (by rw [nv01]; decide) (fun _ => rfl) w ht
  rw [nv01, ex_ev] at q
  exact q
theorem odd15 (w : World) (ht : Tab w) : Calls Tryd.prog 21 #[.agg #[.bool false, .int .u64 0, .int .u64 15, .int .i64 (-1)]] w (RetB false w) := by
  have q := odd_r false 0 15 (-1) (ww1 (by decide)) (by rw [nv01]; decide) (fun _ => rfl) w ht
  rw [nv01, ex_od] at q
  exact q
theorem keepS12 {W w' : World} {g0 o0 g1 o1 g2 o2 g3 o3 g4 o4 g5 o5 g6 o6 g7 o7 g8 o8 g9 o9 g10 o10 g11 o11 : Nat} {v0 v1 v2 v3 v4 v5 v6 v7 v8 v9 v10 v11 : Value} (hb : Below W.heap.size W w') (h : W.cell? ⟨g0, o0, none⟩ = some v0 ∧ W.cell? ⟨g1, o1, none⟩ = some v1 ∧ W.cell? ⟨g2, o2, none⟩ = some v2 ∧ W.cell? ⟨g3, o3, none⟩ = some v3 ∧ W.cell? ⟨g4, o4, none⟩ = some v4 ∧ W.cell? ⟨g5, o5, none⟩ = some v5 ∧ W.cell? ⟨g6, o6, none⟩ = some v6 ∧ W.cell? ⟨g7, o7, none⟩ = some v7 ∧ W.cell? ⟨g8, o8, none⟩ = some v8 ∧ W.cell? ⟨g9, o9, none⟩ = some v9 ∧ W.cell? ⟨g10, o10, none⟩ = some v10 ∧ W.cell? ⟨g11, o11, none⟩ = some v11) : w'.cell? ⟨g0, o0, none⟩ = some v0 ∧ w'.cell? ⟨g1, o1, none⟩ = some v1 ∧ w'.cell? ⟨g2, o2, none⟩ = some v2 ∧ w'.cell? ⟨g3, o3, none⟩ = some v3 ∧ w'.cell? ⟨g4, o4, none⟩ = some v4 ∧ w'.cell? ⟨g5, o5, none⟩ = some v5 ∧ w'.cell? ⟨g6, o6, none⟩ = some v6 ∧ w'.cell? ⟨g7, o7, none⟩ = some v7 ∧ w'.cell? ⟨g8, o8, none⟩ = some v8 ∧ w'.cell? ⟨g9, o9, none⟩ = some v9 ∧ w'.cell? ⟨g10, o10, none⟩ = some v10 ∧ w'.cell? ⟨g11, o11, none⟩ = some v11 :=
  ⟨keepCell2 h.1 hb, keepCell2 h.2.1 hb, keepCell2 h.2.2.1 hb, keepCell2 h.2.2.2.1 hb, keepCell2 h.2.2.2.2.1 hb, keepCell2 h.2.2.2.2.2.1 hb, keepCell2 h.2.2.2.2.2.2.1 hb, keepCell2 h.2.2.2.2.2.2.2.1 hb, keepCell2 h.2.2.2.2.2.2.2.2.1 hb, keepCell2 h.2.2.2.2.2.2.2.2.2.1 hb, keepCell2 h.2.2.2.2.2.2.2.2.2.2.1 hb, keepCell2 h.2.2.2.2.2.2.2.2.2.2.2 hb⟩

set_option maxRecDepth 100000 in
set_option maxHeartbeats 8000000 in
theorem awake4 (w : World) (ht : Tab w) : Calls Tryd.prog 14 #[] w (RetB true w) := by
  have HT := Lib.hid ht
  have C1 := Lib.hid (scale_small 1 (by decide) 2345 (-3) 2 (by decide) (by decide) (by decide) (by decide) ex_sc1)
  have C3 := Lib.hid (scale_small 4 (by decide) 15 (-1) 3 (by decide) (by decide) (by decide) (by decide) ex_sc2)
  have C5 := Lib.hid mod12
  have I12 := Lib.hid (int_neg 12 (by decide) (by decide))
  have I5 := Lib.hid (int_yes 5 (by decide))
  rw [show (-((12 : Nat) : Int)) = -12 from rfl] at I12
  have B : Below w.heap.size w w := Below.refl _ _
  clear ht
  go_enter Tryd.func14, Tryd.ntmps14
  go_wp2_with fail
  refine (of4 2345 (-3) _).mono ?_
  rintro e y1 ⟨n, h, l, x, ⟨rfl, rfl, rfl, rfl⟩, rfl, hb⟩
  replace B := bstep B hb
  clear hb
  go_wp2_with fail
  refine (C1.out _ (HT.out.below B)).mono ?_
  rintro e y2 ⟨n, h, l, x, ok, N, rfl, hb⟩
  obtain ⟨rfl, rfl, rfl, rfl, rfl⟩ := numO_small (by decide) N
  replace B := bstep B hb
  clear hb
  clear C1 N
  replace B := ballD1 B (.cells #[.bool false, .int .u64 0, .int .u64 234, .int .i64 (-2)] 28)
  have P1 := Lib.hid (show HoldsD (y2.alloc (.cells #[.bool false, .int .u64 0, .int .u64 234, .int .i64 (-2)] 28)) y2.heap.size false 0 234 (-2) from by simp [HoldsD, go_sem])
  go_upto_region 2 with fail
  obtain ⟨gP1, hg⟩ : ∃ g, g = y2.heap.size := ⟨_, rfl⟩
  rw [← hg] at P1
  rw [← hg]
  generalize y2.alloc (.cells #[.bool false, .int .u64 0, .int .u64 234, .int .i64 (-2)] 28) = V2 at *
  clear hg
  go_wp2_with fail
  refine (of4 15 (-1) _).mono ?_
  rintro e y3 ⟨n, h, l, x, ⟨rfl, rfl, rfl, rfl⟩, rfl, hb⟩
  replace P1 := Lib.hid (P1.out.below hb)
  replace B := bstep B hb
  clear hb
  go_wp2_with fail
  refine (C3.out _ (HT.out.below B)).mono ?_
  rintro e y4 ⟨n, h, l, x, ok, N, rfl, hb⟩
  obtain ⟨rfl, rfl, rfl, rfl, rfl⟩ := numO_small (by decide) N
  replace P1 := Lib.hid (P1.out.below hb)
  replace B := bstep B hb
  clear hb
  clear C3 N
  replace P1 := Lib.hid (P1.out.alloc (.cells #[.bool false, .int .u64 0, .int .u64 1500, .int .i64 (-3)] 28))
  replace B := ballD1 B (.cells #[.bool false, .int .u64 0, .int .u64 1500, .int .i64 (-3)] 28)
  have P3 := Lib.hid (show HoldsD (y4.alloc (.cells #[.bool false, .int .u64 0, .int .u64 1500, .int .i64 (-3)] 28)) y4.heap.size false 0 1500 (-3) from by simp [HoldsD, go_sem])
  go_upto_region 3 with fail
  obtain ⟨gP3, hg⟩ : ∃ g, g = y4.heap.size := ⟨_, rfl⟩
  rw [← hg] at P3
  rw [← hg]
  generalize y4.alloc (.cells #[.bool false, .int .u64 0, .int .u64 1500, .int .i64 (-3)] 28) = V4 at *
  clear hg
  go_wp2_with fail
  refine (I12.out _).mono ?_
  rintro e y5 ⟨n, h, l, x, ⟨rfl, rfl, rfl, rfl⟩, rfl, hb⟩
  replace P1 := Lib.hid (P1.out.below hb)
  replace P3 := Lib.hid (P3.out.below hb)
  replace B := bstep B hb
  clear hb
  clear I12
  go_wp2_with fail
  refine (I5.out _).mono ?_
  rintro e y6 ⟨n, h, l, x, ⟨rfl, rfl, rfl, rfl⟩, rfl, hb⟩
  replace P1 := Lib.hid (P1.out.below hb)
  replace P3 := Lib.hid (P3.out.below hb)
  replace B := bstep B hb
  clear hb
  clear I5
  go_wp2_with fail
  refine (C5.out _ (HT.out.below B)).mono ?_
  rintro e y7 ⟨n, h, l, x, ok, N, rfl, hb⟩
  obtain ⟨rfl, rfl, rfl, rfl, rfl⟩ := numO_small (by decide) N
  replace P1 := Lib.hid (P1.out.below hb)
  replace P3 := Lib.hid (P3.out.below hb)
  replace B := bstep B hb
  clear hb
  clear C5 N
  replace P1 := Lib.hid (P1.out.alloc (.cells #[.bool false, .int .u64 0, .int .u64 3, .int .i64 0] 28))
  replace P3 := Lib.hid (P3.out.alloc (.cells #[.bool false, .int .u64 0, .int .u64 3, .int .i64 0] 28))
  replace B := ballD1 B (.cells #[.bool false, .int .u64 0, .int .u64 3, .int .i64 0] 28)
  have P5 := Lib.hid (show HoldsD (y7.alloc (.cells #[.bool false, .int .u64 0, .int .u64 3, .int .i64 0] 28)) y7.heap.size false 0 3 0 from by simp [HoldsD, go_sem])
  go_upto_region 4 with fail
  obtain ⟨gP5, hg⟩ : ∃ g, g = y7.heap.size := ⟨_, rfl⟩
  rw [← hg] at P5
  rw [← hg]
  generalize y7.alloc (.cells #[.bool false, .int .u64 0, .int .u64 3, .int .i64 0] 28) = V7 at *
  clear hg
  obtain ⟨⟨c1_1, c1_2, c1_3, c1_4⟩, -, c1_9⟩ := P1.out
  obtain ⟨⟨c2_1, c2_2, c2_3, c2_4⟩, -, c2_9⟩ := P3.out
  obtain ⟨⟨c3_1, c3_2, c3_3, c3_4⟩, -, c3_9⟩ := P5.out
  clear P1 P3 P5
  go_region_held3 (fun w' => w'.cell? ⟨gP1, 0, none⟩ = some (.bool false) ∧ w'.cell? ⟨gP1, 1, none⟩ = some (.int .u64 0) ∧ w'.cell? ⟨gP1, 2, none⟩ = some (.int .u64 234) ∧ w'.cell? ⟨gP1, 3, none⟩ = some (.int .i64 (-2)) ∧ w'.cell? ⟨gP3, 0, none⟩ = some (.bool false) ∧ w'.cell? ⟨gP3, 1, none⟩ = some (.int .u64 0) ∧ w'.cell? ⟨gP3, 2, none⟩ = some (.int .u64 1500) ∧ w'.cell? ⟨gP3, 3, none⟩ = some (.int .i64 (-3)) ∧ w'.cell? ⟨gP5, 0, none⟩ = some (.bool false) ∧ w'.cell? ⟨gP5, 1, none⟩ = some (.int .u64 0) ∧ w'.cell? ⟨gP5, 2, none⟩ = some (.int .u64 3) ∧ w'.cell? ⟨gP5, 3, none⟩ = some (.int .i64 0))
    (first | (with_reducible assumption) | (with_reducible exact keepS12 (bundrew (by with_reducible assumption)) (by with_reducible assumption)) | (with_reducible exact keepS12 (by with_reducible assumption) (by with_reducible assumption)) | exact ⟨c1_1, c1_2, c1_3, c1_4, c2_1, c2_2, c2_3, c2_4, c3_1, c3_2, c3_3, c3_4⟩)
    (first
      | (go_at_call 44; (first | (with_reducible refine (of4I 234 _ _ 234 rfl).mono ?_) | (with_reducible refine (of4I 1500 _ _ 1500 rfl).mono ?_) | (with_reducible refine (of4I 15 _ _ 15 rfl).mono ?_) | (with_reducible refine (of4I 20 _ _ 20 rfl).mono ?_)); rintro e wN ⟨rfl, hbN⟩)
      | (go_at_call 27; (with_reducible refine (neg15 _).mono ?_); rintro e wG ⟨rfl, hbG⟩)
      | (go_at_call 25; (first | (with_reducible refine (intm2 _).mono ?_) | (with_reducible refine (int3 _).mono ?_)); rintro e wI ⟨rfl, hbI⟩)
      | (go_at_call 22; (with_reducible refine (floor15 _ ?_).mono ?_); (exact HT.out.below (by repeat' (first | (with_reducible exact B) | (with_reducible refine Below.drew ?_) | (with_reducible refine bstep ?_ (by with_reducible assumption))))); rintro e wF ⟨rfl, hbF⟩)
      | (go_at_call 20; (with_reducible refine (even20 _ ?_).mono ?_); (exact HT.out.below (by repeat' (first | (with_reducible exact B) | (with_reducible refine Below.drew ?_) | (with_reducible refine bstep ?_ (by with_reducible assumption))))); rintro e wE ⟨rfl, hbE⟩)
      | (go_at_call 21; (with_reducible refine (odd15 _ ?_).mono ?_); (exact HT.out.below (by repeat' (first | (with_reducible exact B) | (with_reducible refine Below.drew ?_) | (with_reducible refine bstep ?_ (by with_reducible assumption))))); rintro e wO ⟨rfl, hbO⟩))
  all_goals
    clear c1_1 c1_2 c1_3 c1_4 c1_9 c2_1 c2_2 c2_3 c2_4 c2_9 c3_1 c3_2 c3_3 c3_4 c3_9
    go_wp2
    go_ret
    refine ⟨rfl, ?_⟩
    repeat' (first | (with_reducible exact B) | (with_reducible refine Below.drew ?_) | (with_reducible refine ballD1 ?_ _) | (with_reducible refine bstep ?_ (by with_reducible assumption)))
end Go.Proofs.YtncpdoeikebomaaDoor
