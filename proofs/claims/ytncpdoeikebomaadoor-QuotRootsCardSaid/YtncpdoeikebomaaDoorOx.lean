/-
  Several texts in one: each one's own remark stands ahead of it.
-/
import Derived.Test.YtncpdoeikebomaaDoorEm
import Derived.Test.YtncpdoeikebomaaDoorUall
import Derived.Deep.RegionHeld3
/-
  Small numbers (of of the laws of layers 3, 4 and 5), each as a contract of its call.
-/
namespace Go.Proofs.YtncpdoeikebomaaDoor
open Go.RowKit

set_option maxHeartbeats 400000 in
theorem of3 (c : Nat) (x : Int) (w : World) : Calls Tryd.prog 29 #[.int .u64 (c : Int), .int .i64 x] w (RetD (fun n h' l' x' => n = false ∧ h' = 0 ∧ l' = c ∧ x' = x) w) := by
  go_enter Tryd.func29, Tryd.ntmps29
  go_wp2_with fail
  refine (of_any c _).mono ?_
  rintro e w1 ⟨rfl, o, rfl⟩
  go_wp2
  refine bodyPost_ret (v := Dv false 0 c x) (by simp [results, Tryd.results29, go_sem, *]) rfl ⟨_, _, _, _, ⟨rfl, rfl, rfl, rfl⟩, rfl, ?_⟩
  go_grown

set_option maxHeartbeats 400000 in
theorem of4 (c : Nat) (x : Int) (w : World) : Calls Tryd.prog 44 #[.int .u64 (c : Int), .int .i64 x] w (RetD (fun n h' l' x' => n = false ∧ h' = 0 ∧ l' = c ∧ x' = x) w) := by
  go_enter Tryd.func44, Tryd.ntmps44
  go_wp2_with fail
  refine (of_any c _).mono ?_
  rintro e w1 ⟨rfl, o, rfl⟩
  go_wp2
  refine bodyPost_ret (v := Dv false 0 c x) (by simp [results, Tryd.results44, go_sem, *]) rfl ⟨_, _, _, _, ⟨rfl, rfl, rfl, rfl⟩, rfl, ?_⟩
  go_grown
end Go.Proofs.YtncpdoeikebomaaDoor

/-
  The document's examples of layer 3 (awake of the laws), as a contract of the call.
-/
namespace Go.Proofs.YtncpdoeikebomaaDoor
open Go.RowKit

theorem div_small (na : Bool) (a : Nat) (ea : Int) (nb : Bool) (b : Nat) (eb : Int) (ha : a < 18446744073709551616) (hb : b < 18446744073709551616) (h1 : NumD a ea) (h2 : NumD b eb) {r : Option (Bool × Nat × Int)} (h : ∀ o, DivP na a ea nb b eb o → o = r) (w : World) (ht : Tab w) :
    Calls Tryd.prog 28 #[Dv na 0 a ea, Dv nb 0 b eb] w (RetDO r w) := by
  have k := divD_any na 0 a ea nb 0 b eb (ww1 ha) (ww1 hb) (by rw [nv01]; exact h1) (by rw [nv01]; exact h2) w ht
  rw [nv01, nv01] at k
  exact k.mono fun e w' H => RetDP.det h H
theorem root_small (a : Nat) (x : Int) (ha : a < 18446744073709551616) (h1 : NumD a x) {r : Option (Bool × Nat × Int)} (h : ∀ o, RootP a x o → o = r) (w : World) (ht : Tab w) :
    Calls Tryd.prog 9 #[Dv false 0 a x] w (RetDO r w) := by
  have k := rootD_any 0 a x (ww1 ha) (by rw [nv01]; exact h1) w ht
  rw [nv01] at k
  exact k.mono fun e w' H => RetDP.det h H
theorem pow_small (a : Nat) (x : Int) (ha : a < 18446744073709551616) (h1 : NumD a x) (n : Nat) (hn : n ≤ 999999999) (h0 : 0 < n) {s : Bool} {c : Nat} {y : Int} (hp : powF n false a x = some (s, c, y)) (hc : NumD c y) {r : Option (Bool × Nat × Int)} (h : ∀ o, DivP false 1 0 s c y o → o = r) (w : World) (ht : Tab w) :
    Calls Tryd.prog 30 #[Dv false 0 a x, .int .i64 (-(n : Int))] w (RetDO r w) := by
  have k := Power_down false 0 a x n (ww1 ha) (by rw [nv01]; exact h1) hn h0 s c y (by rw [nv01]; exact hp) hc w ht
  exact k.mono fun e w' H => RetDP.det h H
theorem ex_root15 (o : Option (Bool × Nat × Int)) (R : RootP 225 (-2) o) : o = some (false, 15, -1) := RootP_square (p := 15) (e := -1) R
theorem ex_root10 (o : Option (Bool × Nat × Int)) (R : RootP 100 0 o) : o = some (false, 10, 0) := RootP_square (p := 10) (e := 0) R
theorem of3I (c : Nat) (x : Int) (w : World) (c' : Int) (hc : c' = (c : Int)) : Calls Tryd.prog 29 #[.int .u64 c', .int .i64 x] w fun e w' => e = .returned (.agg #[.bool false, .int .u64 0, .int .u64 c', .int .i64 x]) ∧ Below w.heap.size w w' := by
  subst hc
  refine (of3 c x w).mono ?_
  rintro e w1 ⟨n, h, l, x', ⟨rfl, rfl, rfl, rfl⟩, rfl, hb⟩
  exact ⟨rfl, hb⟩
theorem keepS21 {W w' : World} {g0 o0 g1 o1 g2 o2 g3 o3 g4 o4 g5 o5 g6 o6 g7 o7 g8 o8 g9 o9 g10 o10 g11 o11 g12 o12 g13 o13 g14 o14 g15 o15 g16 o16 g17 o17 g18 o18 g19 o19 g20 o20 : Nat} {v0 v1 v2 v3 v4 v5 v6 v7 v8 v9 v10 v11 v12 v13 v14 v15 v16 v17 v18 v19 v20 : Value} (hb : Below W.heap.size W w') (h : W.cell? ⟨g0, o0, none⟩ = some v0 ∧ W.cell? ⟨g1, o1, none⟩ = some v1 ∧ W.cell? ⟨g2, o2, none⟩ = some v2 ∧ W.cell? ⟨g3, o3, none⟩ = some v3 ∧ W.cell? ⟨g4, o4, none⟩ = some v4 ∧ W.cell? ⟨g5, o5, none⟩ = some v5 ∧ W.cell? ⟨g6, o6, none⟩ = some v6 ∧ W.cell? ⟨g7, o7, none⟩ = some v7 ∧ W.cell? ⟨g8, o8, none⟩ = some v8 ∧ W.cell? ⟨g9, o9, none⟩ = some v9 ∧ W.cell? ⟨g10, o10, none⟩ = some v10 ∧ W.cell? ⟨g11, o11, none⟩ = some v11 ∧ W.cell? ⟨g12, o12, none⟩ = some v12 ∧ W.cell? ⟨g13, o13, none⟩ = some v13 ∧ W.cell? ⟨g14, o14, none⟩ = some v14 ∧ W.cell? ⟨g15, o15, none⟩ = some v15 ∧ W.cell? ⟨g16, o16, none⟩ = some v16 ∧ W.cell? ⟨g17, o17, none⟩ = some v17 ∧ W.cell? ⟨g18, o18, none⟩ = some v18 ∧ W.cell? ⟨g19, o19, none⟩ = some v19 ∧ W.cell? ⟨g20, o20, none⟩ = some v20) : w'.cell? ⟨g0, o0, none⟩ = some v0 ∧ w'.cell? ⟨g1, o1, none⟩ = some v1 ∧ w'.cell? ⟨g2, o2, none⟩ = some v2 ∧ w'.cell? ⟨g3, o3, none⟩ = some v3 ∧ w'.cell? ⟨g4, o4, none⟩ = some v4 ∧ w'.cell? ⟨g5, o5, none⟩ = some v5 ∧ w'.cell? ⟨g6, o6, none⟩ = some v6 ∧ w'.cell? ⟨g7, o7, none⟩ = some v7 ∧ w'.cell? ⟨g8, o8, none⟩ = some v8 ∧ w'.cell? ⟨g9, o9, none⟩ = some v9 ∧ w'.cell? ⟨g10, o10, none⟩ = some v10 ∧ w'.cell? ⟨g11, o11, none⟩ = some v11 ∧ w'.cell? ⟨g12, o12, none⟩ = some v12 ∧ w'.cell? ⟨g13, o13, none⟩ = some v13 ∧ w'.cell? ⟨g14, o14, none⟩ = some v14 ∧ w'.cell? ⟨g15, o15, none⟩ = some v15 ∧ w'.cell? ⟨g16, o16, none⟩ = some v16 ∧ w'.cell? ⟨g17, o17, none⟩ = some v17 ∧ w'.cell? ⟨g18, o18, none⟩ = some v18 ∧ w'.cell? ⟨g19, o19, none⟩ = some v19 ∧ w'.cell? ⟨g20, o20, none⟩ = some v20 :=
  ⟨keepCell2 h.1 hb, keepCell2 h.2.1 hb, keepCell2 h.2.2.1 hb, keepCell2 h.2.2.2.1 hb, keepCell2 h.2.2.2.2.1 hb, keepCell2 h.2.2.2.2.2.1 hb, keepCell2 h.2.2.2.2.2.2.1 hb, keepCell2 h.2.2.2.2.2.2.2.1 hb, keepCell2 h.2.2.2.2.2.2.2.2.1 hb, keepCell2 h.2.2.2.2.2.2.2.2.2.1 hb, keepCell2 h.2.2.2.2.2.2.2.2.2.2.1 hb, keepCell2 h.2.2.2.2.2.2.2.2.2.2.2.1 hb, keepCell2 h.2.2.2.2.2.2.2.2.2.2.2.2.1 hb, keepCell2 h.2.2.2.2.2.2.2.2.2.2.2.2.2.1 hb, keepCell2 h.2.2.2.2.2.2.2.2.2.2.2.2.2.2.1 hb, keepCell2 h.2.2.2.2.2.2.2.2.2.2.2.2.2.2.2.1 hb, keepCell2 h.2.2.2.2.2.2.2.2.2.2.2.2.2.2.2.2.1 hb, keepCell2 h.2.2.2.2.2.2.2.2.2.2.2.2.2.2.2.2.2.1 hb, keepCell2 h.2.2.2.2.2.2.2.2.2.2.2.2.2.2.2.2.2.2.1 hb, keepCell2 h.2.2.2.2.2.2.2.2.2.2.2.2.2.2.2.2.2.2.2.1 hb, keepCell2 h.2.2.2.2.2.2.2.2.2.2.2.2.2.2.2.2.2.2.2.2 hb⟩

set_option maxRecDepth 100000 in
set_option maxHeartbeats 8000000 in
theorem awake3 (w : World) (ht : Tab w) : Calls Tryd.prog 7 #[] w (RetB true w) := by
  have HT := Lib.hid ht
  have C1 := Lib.hid (div_small false 60 (-1) false 2 0 (by decide) (by decide) (by decide) (by decide) (fun _ => exd_60))
  have C3 := Lib.hid (div_small false 1 0 false 8 0 (by decide) (by decide) (by decide) (by decide) (fun _ => exd_8))
  have C5 := Lib.hid (pow_small 2 0 (by decide) (by decide) 2 (by decide) (by decide) pow_two' (by decide) (fun _ => exd_4))
  have C7 := Lib.hid (root_small 225 (-2) (by decide) (by decide) ex_root15)
  have C9 := Lib.hid (root_small 100 0 (by decide) (by decide) ex_root10)
  have C11 := Lib.hid (div_small false 1 0 false 3 0 (by decide) (by decide) (by decide) (by decide) (fun _ => exd_3))
  rw [show (-((2 : Nat) : Int)) = -2 from rfl] at C5
  have B : Below w.heap.size w w := Below.refl _ _
  clear ht
  go_enter Tryd.func7, Tryd.ntmps7
  go_wp2_with fail
  refine (of3 60 (-1) _).mono ?_
  rintro e y1 ⟨n, h, l, x, ⟨rfl, rfl, rfl, rfl⟩, rfl, hb⟩
  replace B := bstep B hb
  clear hb
  go_wp2_with fail
  refine (of3 2 0 _).mono ?_
  rintro e y2 ⟨n, h, l, x, ⟨rfl, rfl, rfl, rfl⟩, rfl, hb⟩
  replace B := bstep B hb
  clear hb
  go_wp2_with fail
  refine (C1.out _ (HT.out.below B)).mono ?_
  rintro e y3 ⟨n, h, l, x, ok, N, rfl, hb⟩
  obtain ⟨rfl, rfl, rfl, rfl, rfl⟩ := numO_small (by decide) N
  replace B := bstep B hb
  clear hb
  clear C1 N
  replace B := ballD1 B (.cells #[.bool false, .int .u64 0, .int .u64 30, .int .i64 (-1)] 28)
  have P1 := Lib.hid (show HoldsD (y3.alloc (.cells #[.bool false, .int .u64 0, .int .u64 30, .int .i64 (-1)] 28)) y3.heap.size false 0 30 (-1) from by simp [HoldsD, go_sem])
  go_upto_region 2 with fail
  obtain ⟨gP1, hg⟩ : ∃ g, g = y3.heap.size := ⟨_, rfl⟩
  rw [← hg] at P1
  rw [← hg]
  generalize y3.alloc (.cells #[.bool false, .int .u64 0, .int .u64 30, .int .i64 (-1)] 28) = V3 at *
  clear hg
  go_wp2_with fail
  refine (of3 1 0 _).mono ?_
  rintro e y4 ⟨n, h, l, x, ⟨rfl, rfl, rfl, rfl⟩, rfl, hb⟩
  replace P1 := Lib.hid (P1.out.below hb)
  replace B := bstep B hb
  clear hb
  go_wp2_with fail
  refine (of3 8 0 _).mono ?_
  rintro e y5 ⟨n, h, l, x, ⟨rfl, rfl, rfl, rfl⟩, rfl, hb⟩
  replace P1 := Lib.hid (P1.out.below hb)
  replace B := bstep B hb
  clear hb
  go_wp2_with fail
  refine (C3.out _ (HT.out.below B)).mono ?_
  rintro e y6 ⟨n, h, l, x, ok, N, rfl, hb⟩
  obtain ⟨rfl, rfl, rfl, rfl, rfl⟩ := numO_small (by decide) N
  replace P1 := Lib.hid (P1.out.below hb)
  replace B := bstep B hb
  clear hb
  clear C3 N
  replace P1 := Lib.hid (P1.out.alloc (.cells #[.bool false, .int .u64 0, .int .u64 125, .int .i64 (-3)] 28))
  replace B := ballD1 B (.cells #[.bool false, .int .u64 0, .int .u64 125, .int .i64 (-3)] 28)
  have P3 := Lib.hid (show HoldsD (y6.alloc (.cells #[.bool false, .int .u64 0, .int .u64 125, .int .i64 (-3)] 28)) y6.heap.size false 0 125 (-3) from by simp [HoldsD, go_sem])
  go_upto_region 3 with fail
  obtain ⟨gP3, hg⟩ : ∃ g, g = y6.heap.size := ⟨_, rfl⟩
  rw [← hg] at P3
  rw [← hg]
  generalize y6.alloc (.cells #[.bool false, .int .u64 0, .int .u64 125, .int .i64 (-3)] 28) = V6 at *
  clear hg
  go_wp2_with fail
  refine (of3 2 0 _).mono ?_
  rintro e y7 ⟨n, h, l, x, ⟨rfl, rfl, rfl, rfl⟩, rfl, hb⟩
  replace P1 := Lib.hid (P1.out.below hb)
  replace P3 := Lib.hid (P3.out.below hb)
  replace B := bstep B hb
  clear hb
  go_wp2_with fail
  refine (C5.out _ (HT.out.below B)).mono ?_
  rintro e y8 ⟨n, h, l, x, ok, N, rfl, hb⟩
  obtain ⟨rfl, rfl, rfl, rfl, rfl⟩ := numO_small (by decide) N
  replace P1 := Lib.hid (P1.out.below hb)
  replace P3 := Lib.hid (P3.out.below hb)
  replace B := bstep B hb
  clear hb
  clear C5 N
  replace P1 := Lib.hid (P1.out.alloc (.cells #[.bool false, .int .u64 0, .int .u64 25, .int .i64 (-2)] 28))
  replace P3 := Lib.hid (P3.out.alloc (.cells #[.bool false, .int .u64 0, .int .u64 25, .int .i64 (-2)] 28))
  replace B := ballD1 B (.cells #[.bool false, .int .u64 0, .int .u64 25, .int .i64 (-2)] 28)
  have P5 := Lib.hid (show HoldsD (y8.alloc (.cells #[.bool false, .int .u64 0, .int .u64 25, .int .i64 (-2)] 28)) y8.heap.size false 0 25 (-2) from by simp [HoldsD, go_sem])
  go_upto_region 4 with fail
  obtain ⟨gP5, hg⟩ : ∃ g, g = y8.heap.size := ⟨_, rfl⟩
  rw [← hg] at P5
  rw [← hg]
  generalize y8.alloc (.cells #[.bool false, .int .u64 0, .int .u64 25, .int .i64 (-2)] 28) = V8 at *
  clear hg
  go_wp2_with fail
  refine (of3 225 (-2) _).mono ?_
  rintro e y9 ⟨n, h, l, x, ⟨rfl, rfl, rfl, rfl⟩, rfl, hb⟩
  replace P1 := Lib.hid (P1.out.below hb)
  replace P3 := Lib.hid (P3.out.below hb)
  replace P5 := Lib.hid (P5.out.below hb)
  replace B := bstep B hb
  clear hb
  go_wp2_with fail
  refine (C7.out _ (HT.out.below B)).mono ?_
  rintro e y10 ⟨n, h, l, x, ok, N, rfl, hb⟩
  obtain ⟨rfl, rfl, rfl, rfl, rfl⟩ := numO_small (by decide) N
  replace P1 := Lib.hid (P1.out.below hb)
  replace P3 := Lib.hid (P3.out.below hb)
  replace P5 := Lib.hid (P5.out.below hb)
  replace B := bstep B hb
  clear hb
  clear C7 N
  replace P1 := Lib.hid (P1.out.alloc (.cells #[.bool false, .int .u64 0, .int .u64 15, .int .i64 (-1)] 28))
  replace P3 := Lib.hid (P3.out.alloc (.cells #[.bool false, .int .u64 0, .int .u64 15, .int .i64 (-1)] 28))
  replace P5 := Lib.hid (P5.out.alloc (.cells #[.bool false, .int .u64 0, .int .u64 15, .int .i64 (-1)] 28))
  replace B := ballD1 B (.cells #[.bool false, .int .u64 0, .int .u64 15, .int .i64 (-1)] 28)
  have P7 := Lib.hid (show HoldsD (y10.alloc (.cells #[.bool false, .int .u64 0, .int .u64 15, .int .i64 (-1)] 28)) y10.heap.size false 0 15 (-1) from by simp [HoldsD, go_sem])
  go_upto_region 5 with fail
  obtain ⟨gP7, hg⟩ : ∃ g, g = y10.heap.size := ⟨_, rfl⟩
  rw [← hg] at P7
  rw [← hg]
  generalize y10.alloc (.cells #[.bool false, .int .u64 0, .int .u64 15, .int .i64 (-1)] 28) = V10 at *
  clear hg
  go_wp2_with fail
  refine (of3 100 0 _).mono ?_
  rintro e y11 ⟨n, h, l, x, ⟨rfl, rfl, rfl, rfl⟩, rfl, hb⟩
  replace P1 := Lib.hid (P1.out.below hb)
  replace P3 := Lib.hid (P3.out.below hb)
  replace P5 := Lib.hid (P5.out.below hb)
  replace P7 := Lib.hid (P7.out.below hb)
  replace B := bstep B hb
  clear hb
  go_wp2_with fail
  refine (C9.out _ (HT.out.below B)).mono ?_
  rintro e y12 ⟨n, h, l, x, ok, N, rfl, hb⟩
  obtain ⟨rfl, rfl, rfl, rfl, rfl⟩ := numO_small (by decide) N
  replace P1 := Lib.hid (P1.out.below hb)
  replace P3 := Lib.hid (P3.out.below hb)
  replace P5 := Lib.hid (P5.out.below hb)
  replace P7 := Lib.hid (P7.out.below hb)
  replace B := bstep B hb
  clear hb
  clear C9 N
  replace P1 := Lib.hid (P1.out.alloc (.cells #[.bool false, .int .u64 0, .int .u64 10, .int .i64 0] 28))
  replace P3 := Lib.hid (P3.out.alloc (.cells #[.bool false, .int .u64 0, .int .u64 10, .int .i64 0] 28))
  replace P5 := Lib.hid (P5.out.alloc (.cells #[.bool false, .int .u64 0, .int .u64 10, .int .i64 0] 28))
  replace P7 := Lib.hid (P7.out.alloc (.cells #[.bool false, .int .u64 0, .int .u64 10, .int .i64 0] 28))
  replace B := ballD1 B (.cells #[.bool false, .int .u64 0, .int .u64 10, .int .i64 0] 28)
  have P9 := Lib.hid (show HoldsD (y12.alloc (.cells #[.bool false, .int .u64 0, .int .u64 10, .int .i64 0] 28)) y12.heap.size false 0 10 0 from by simp [HoldsD, go_sem])
  go_upto_region 6 with fail
  obtain ⟨gP9, hg⟩ : ∃ g, g = y12.heap.size := ⟨_, rfl⟩
  rw [← hg] at P9
  rw [← hg]
  generalize y12.alloc (.cells #[.bool false, .int .u64 0, .int .u64 10, .int .i64 0] 28) = V12 at *
  clear hg
  go_wp2_with fail
  refine (of3 1 0 _).mono ?_
  rintro e y13 ⟨n, h, l, x, ⟨rfl, rfl, rfl, rfl⟩, rfl, hb⟩
  replace P1 := Lib.hid (P1.out.below hb)
  replace P3 := Lib.hid (P3.out.below hb)
  replace P5 := Lib.hid (P5.out.below hb)
  replace P7 := Lib.hid (P7.out.below hb)
  replace P9 := Lib.hid (P9.out.below hb)
  replace B := bstep B hb
  clear hb
  go_wp2_with fail
  refine (of3 3 0 _).mono ?_
  rintro e y14 ⟨n, h, l, x, ⟨rfl, rfl, rfl, rfl⟩, rfl, hb⟩
  replace P1 := Lib.hid (P1.out.below hb)
  replace P3 := Lib.hid (P3.out.below hb)
  replace P5 := Lib.hid (P5.out.below hb)
  replace P7 := Lib.hid (P7.out.below hb)
  replace P9 := Lib.hid (P9.out.below hb)
  replace B := bstep B hb
  clear hb
  go_wp2_with fail
  refine (C11.out _ (HT.out.below B)).mono ?_
  rintro e y15 ⟨n, th, tl, x, ok, N, rfl, hb⟩
  obtain ⟨-, rfl, rfl, -, rfl⟩ := N
  replace P1 := Lib.hid (P1.out.below hb)
  replace P3 := Lib.hid (P3.out.below hb)
  replace P5 := Lib.hid (P5.out.below hb)
  replace P7 := Lib.hid (P7.out.below hb)
  replace P9 := Lib.hid (P9.out.below hb)
  replace B := bstep B hb
  clear hb
  clear C11
  replace P1 := Lib.hid (P1.out.alloc (.cells #[.bool false, .int .u64 (th : Int), .int .u64 (tl : Int), .int .i64 (-34)] 28))
  replace P3 := Lib.hid (P3.out.alloc (.cells #[.bool false, .int .u64 (th : Int), .int .u64 (tl : Int), .int .i64 (-34)] 28))
  replace P5 := Lib.hid (P5.out.alloc (.cells #[.bool false, .int .u64 (th : Int), .int .u64 (tl : Int), .int .i64 (-34)] 28))
  replace P7 := Lib.hid (P7.out.alloc (.cells #[.bool false, .int .u64 (th : Int), .int .u64 (tl : Int), .int .i64 (-34)] 28))
  replace P9 := Lib.hid (P9.out.alloc (.cells #[.bool false, .int .u64 (th : Int), .int .u64 (tl : Int), .int .i64 (-34)] 28))
  replace B := ballD1 B (.cells #[.bool false, .int .u64 (th : Int), .int .u64 (tl : Int), .int .i64 (-34)] 28)
  have P11 := Lib.hid (show HoldsD (y15.alloc (.cells #[.bool false, .int .u64 (th : Int), .int .u64 (tl : Int), .int .i64 (-34)] 28)) y15.heap.size false th tl (-34) from by simp [HoldsD, go_sem])
  go_upto_region 7 with fail
  obtain ⟨gP11, hg⟩ : ∃ g, g = y15.heap.size := ⟨_, rfl⟩
  rw [← hg] at P11
  rw [← hg]
  generalize y15.alloc (.cells #[.bool false, .int .u64 (th : Int), .int .u64 (tl : Int), .int .i64 (-34)] 28) = V15 at *
  clear hg
  obtain ⟨⟨c1_1, c1_2, c1_3, c1_4⟩, -, c1_9⟩ := P1.out
  obtain ⟨⟨c2_1, c2_2, c2_3, c2_4⟩, -, c2_9⟩ := P3.out
  obtain ⟨⟨c3_1, c3_2, c3_3, c3_4⟩, -, c3_9⟩ := P5.out
  obtain ⟨⟨c4_1, c4_2, c4_3, c4_4⟩, -, c4_9⟩ := P7.out
  obtain ⟨⟨c5_1, c5_2, c5_3, c5_4⟩, -, c5_9⟩ := P9.out
  obtain ⟨⟨c6_1, c6_2, c6_3, c6_4⟩, -, c6_9⟩ := P11.out
  clear P1 P3 P5 P7 P9 P11
  go_region_held3 (fun w' => w'.cell? ⟨gP1, 0, none⟩ = some (.bool false) ∧ w'.cell? ⟨gP1, 1, none⟩ = some (.int .u64 0) ∧ w'.cell? ⟨gP1, 2, none⟩ = some (.int .u64 30) ∧ w'.cell? ⟨gP1, 3, none⟩ = some (.int .i64 (-1)) ∧ w'.cell? ⟨gP3, 0, none⟩ = some (.bool false) ∧ w'.cell? ⟨gP3, 1, none⟩ = some (.int .u64 0) ∧ w'.cell? ⟨gP3, 2, none⟩ = some (.int .u64 125) ∧ w'.cell? ⟨gP3, 3, none⟩ = some (.int .i64 (-3)) ∧ w'.cell? ⟨gP5, 0, none⟩ = some (.bool false) ∧ w'.cell? ⟨gP5, 1, none⟩ = some (.int .u64 0) ∧ w'.cell? ⟨gP5, 2, none⟩ = some (.int .u64 25) ∧ w'.cell? ⟨gP5, 3, none⟩ = some (.int .i64 (-2)) ∧ w'.cell? ⟨gP7, 0, none⟩ = some (.bool false) ∧ w'.cell? ⟨gP7, 1, none⟩ = some (.int .u64 0) ∧ w'.cell? ⟨gP7, 2, none⟩ = some (.int .u64 15) ∧ w'.cell? ⟨gP7, 3, none⟩ = some (.int .i64 (-1)) ∧ w'.cell? ⟨gP9, 0, none⟩ = some (.bool false) ∧ w'.cell? ⟨gP9, 1, none⟩ = some (.int .u64 0) ∧ w'.cell? ⟨gP9, 2, none⟩ = some (.int .u64 10) ∧ w'.cell? ⟨gP9, 3, none⟩ = some (.int .i64 0) ∧ w'.cell? ⟨gP11, 3, none⟩ = some (.int .i64 (-34)))
    (first | (with_reducible assumption) | (with_reducible exact keepS21 (bundrew (by with_reducible assumption)) (by with_reducible assumption)) | (with_reducible exact keepS21 (by with_reducible assumption) (by with_reducible assumption)) | exact ⟨c1_1, c1_2, c1_3, c1_4, c2_1, c2_2, c2_3, c2_4, c3_1, c3_2, c3_3, c3_4, c4_1, c4_2, c4_3, c4_4, c5_1, c5_2, c5_3, c5_4, c6_4⟩)
    (first
      | (go_at_call 29; (first | (with_reducible refine (of3I 30 _ _ 30 rfl).mono ?_) | (with_reducible refine (of3I 125 _ _ 125 rfl).mono ?_) | (with_reducible refine (of3I 25 _ _ 25 rfl).mono ?_) | (with_reducible refine (of3I 15 _ _ 15 rfl).mono ?_) | (with_reducible refine (of3I 10 _ _ 10 rfl).mono ?_)); rintro e wN ⟨rfl, hbN⟩))
  all_goals
    clear c1_1 c1_2 c1_3 c1_4 c1_9 c2_1 c2_2 c2_3 c2_4 c2_9 c3_1 c3_2 c3_3 c3_4 c3_9 c4_1 c4_2 c4_3 c4_4 c4_9 c5_1 c5_2 c5_3 c5_4 c5_9 c6_1 c6_2 c6_3 c6_4 c6_9
    go_wp2
    go_ret
    refine ⟨rfl, ?_⟩
    repeat' (first | (with_reducible exact B) | (with_reducible refine Below.drew ?_) | (with_reducible refine ballD1 ?_ _) | (with_reducible refine bstep ?_ (by with_reducible assumption)))
/-- What is asked of the document's examples of layer 3. -/
def AwC3 : Prop := ∀ w : World, Tab w → Calls Tryd.prog 7 #[] w (RetB true w)
end Go.Proofs.YtncpdoeikebomaaDoor
