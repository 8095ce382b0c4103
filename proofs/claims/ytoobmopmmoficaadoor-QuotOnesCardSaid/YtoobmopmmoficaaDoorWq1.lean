/-
  The statement QuotOnes, walked: it answers true, where the document's examples do.
-/
import Derived.Test.YtoobmopmmoficaaDoorUall
import Derived.Test.YtoobmopmmoficaaDoorEm
import Derived.Deep.RegionHeld3
namespace Go.Proofs.YtoobmopmmoficaaDoor
open Go.RowKit

set_option maxRecDepth 100000 in
set_option maxHeartbeats 8000000 in
theorem quotOnes_walk (AW : ∀ w : World, Tab w → Calls Tryd.prog 15 #[] w (RetB true w)) (n : Bool) (h l : Nat) (x : Int) (h0 : WW h l) (x1 : -9223372036854775808 ≤ x) (x2 : x ≤ 9223372036854775807) (w : World) (ht : Tab w) :
    Calls Tryd.prog 6 #[Dv n h l x] w (RetB true w) := by
  have HT := Lib.hid ht
  have AWH := Lib.hid AW
  have M1 := Lib.hid (make_any n h l x h0 x1 x2)
  have IN := Lib.hid (int_yes 1 (by decide))
  clear ht AW h0 x1 x2
  go_enter Tryd.func6, Tryd.ntmps6
  go_wp2_with fail
  refine (AWH.out _ (HT.out.below (by go_grown))).mono ?_
  rintro e w1 ⟨rfl, hb1⟩
  have A0 := Lib.hid (HoldsD.below (by simp [HoldsD, go_sem]) hb1 : HoldsD w1 w.heap.size n h l x)
  have B : Below w.heap.size w w1 := bstep (by go_grown) hb1
  clear hb1 AWH
  obtain ⟨⟨c1_1, c1_2, c1_3, c1_4⟩, -, c1_9⟩ := A0.out
  go_wp2_with fail
  refine (M1.out _ (HT.out.below B)).mono ?_
  rintro e y1 ⟨na, ah, al, ea, NA, rfl, hb⟩
  clear c1_1 c1_2 c1_3 c1_4 c1_9
  replace A0 := Lib.hid (A0.out.below hb)
  replace B := bstep B hb
  clear hb
  clear M1
  clear A0
  replace B := ballD1 B (.cells #[.bool na, .int .u64 (ah : Int), .int .u64 (al : Int), .int .i64 ea] 28)
  have P3 := Lib.hid (show HoldsD (y1.alloc (.cells #[.bool na, .int .u64 (ah : Int), .int .u64 (al : Int), .int .i64 ea] 28)) y1.heap.size na ah al ea from by simp [HoldsD, go_sem])
  go_upto_region 4 with fail
  obtain ⟨gP3, hg⟩ : ∃ g, g = y1.heap.size := ⟨_, rfl⟩
  rw [← hg] at P3
  rw [← hg]
  generalize y1.alloc (.cells #[.bool na, .int .u64 (ah : Int), .int .u64 (al : Int), .int .i64 ea] 28) = V1 at *
  clear hg
  go_wp2_with fail
  refine (IN.out _).mono ?_
  rintro e y2 ⟨n, h, l, x, ⟨rfl, rfl, rfl, rfl⟩, rfl, hb⟩
  replace P3 := Lib.hid (P3.out.below hb)
  replace B := bstep B hb
  clear hb
  clear IN
  replace P3 := Lib.hid (P3.out.alloc (.cells #[.bool false, .int .u64 0, .int .u64 1, .int .i64 0] 28))
  replace B := ballD1 B (.cells #[.bool false, .int .u64 0, .int .u64 1, .int .i64 0] 28)
  have P4 := Lib.hid (show HoldsD (y2.alloc (.cells #[.bool false, .int .u64 0, .int .u64 1, .int .i64 0] 28)) y2.heap.size false 0 1 0 from by simp [HoldsD, go_sem])
  go_upto_region 5 with fail
  obtain ⟨gP4, hg⟩ : ∃ g, g = y2.heap.size := ⟨_, rfl⟩
  rw [← hg] at P4
  rw [← hg]
  generalize y2.alloc (.cells #[.bool false, .int .u64 0, .int .u64 1, .int .i64 0] 28) = V2 at *
  clear hg
  have HN := Lib.hid NA
  have DV := Lib.hid (show ∀ w : World, Tab w → Calls Tryd.prog 25 #[Dv na ah al ea, Dv false 0 1 0] w (RetDO (some (na, nv ah al, ea)) w) from fun w ht => by
    have k := divD_any na ah al ea false 0 1 0 NA.1 (ww1 (by decide)) NA.2.1 (by rw [nv01]; decide) w ht
    rw [nv01] at k
    exact k.mono fun e w' H => RetDP.det (fun o D => DivP_one D NA.2.1 NA.2.2) H)
  have PW1 := Lib.hid (Power_up na ah al ea 1 NA.1 NA.2.1 (by decide))
  rw [pow_one' NA.2.1 NA.2.2] at PW1
  have PW0 := Lib.hid (Power_up na ah al ea 0 NA.1 NA.2.1 (by decide))
  rw [pow_zero'] at PW0
  have DS := Lib.hid (show ∀ w : World, Tab w → Calls Tryd.prog 25 #[Dv na ah al ea, Dv na ah al ea] w (RetDO (if nv ah al = 0 then none else some (false, 1, 0)) w) from fun w ht => by
    have k := divD_any na ah al ea na ah al ea NA.1 NA.1 NA.2.1 NA.2.1 w ht
    exact k.mono fun e w' H => RetDP.det (fun o D => by
      rcases DivP_self D NA.2.1 with ⟨a, b⟩ | ⟨a, b⟩
      · rw [if_pos a, b]
      · rw [if_neg a, b]) H)
  have ZD := Lib.hid (zeroD_any na ah al ea)
  rw [show ((1 : Nat) : Int) = 1 from rfl] at PW1
  rw [show ((0 : Nat) : Int) = 0 from rfl] at PW0
  clear NA
  obtain ⟨⟨c2_1, c2_2, c2_3, c2_4⟩, -, c2_9⟩ := P3.out
  obtain ⟨⟨c3_1, c3_2, c3_3, c3_4⟩, -, c3_9⟩ := P4.out
  go_wp2_with fail
  refine (DV.out _ (HT.out.below B)).mono ?_
  rintro e y3 ⟨n5, h5, l5, x5, k5, N, rfl, hb⟩
  clear c2_1 c2_2 c2_3 c2_4 c2_9 c3_1 c3_2 c3_3 c3_4 c3_9
  obtain ⟨rfl, rfl, rfl, rfl, rfl⟩ := numO_self HN.out.1 N
  replace P3 := Lib.hid (P3.out.below hb)
  replace P4 := Lib.hid (P4.out.below hb)
  replace B := bstep B hb
  clear hb
  clear DV N
  replace P3 := Lib.hid (P3.out.alloc (.cells #[.bool n5, .int .u64 (h5 : Int), .int .u64 (l5 : Int), .int .i64 x5] 28))
  replace P4 := Lib.hid (P4.out.alloc (.cells #[.bool n5, .int .u64 (h5 : Int), .int .u64 (l5 : Int), .int .i64 x5] 28))
  replace B := ballD1 B (.cells #[.bool n5, .int .u64 (h5 : Int), .int .u64 (l5 : Int), .int .i64 x5] 28)
  have P5 := Lib.hid (show HoldsD (y3.alloc (.cells #[.bool n5, .int .u64 (h5 : Int), .int .u64 (l5 : Int), .int .i64 x5] 28)) y3.heap.size n5 h5 l5 x5 from by simp [HoldsD, go_sem])
  go_upto_region 6 with fail
  obtain ⟨gP5, hg⟩ : ∃ g, g = y3.heap.size := ⟨_, rfl⟩
  rw [← hg] at P5
  rw [← hg]
  generalize y3.alloc (.cells #[.bool n5, .int .u64 (h5 : Int), .int .u64 (l5 : Int), .int .i64 x5] 28) = V3 at *
  clear hg
  obtain ⟨⟨c4_1, c4_2, c4_3, c4_4⟩, -, c4_9⟩ := P3.out
  go_wp2_with fail
  refine (PW1.out _ (HT.out.below B)).mono ?_
  rintro e y4 ⟨n7, h7, l7, x7, k7, N, rfl, hb⟩
  clear c4_1 c4_2 c4_3 c4_4 c4_9
  obtain ⟨rfl, rfl, rfl, rfl, rfl⟩ := numO_self HN.out.1 N
  replace P3 := Lib.hid (P3.out.below hb)
  replace P4 := Lib.hid (P4.out.below hb)
  replace P5 := Lib.hid (P5.out.below hb)
  replace B := bstep B hb
  clear hb
  clear PW1 N
  replace P3 := Lib.hid (P3.out.alloc (.cells #[.bool n7, .int .u64 (h7 : Int), .int .u64 (l7 : Int), .int .i64 x7] 28))
  replace P4 := Lib.hid (P4.out.alloc (.cells #[.bool n7, .int .u64 (h7 : Int), .int .u64 (l7 : Int), .int .i64 x7] 28))
  replace P5 := Lib.hid (P5.out.alloc (.cells #[.bool n7, .int .u64 (h7 : Int), .int .u64 (l7 : Int), .int .i64 x7] 28))
  replace B := ballD1 B (.cells #[.bool n7, .int .u64 (h7 : Int), .int .u64 (l7 : Int), .int .i64 x7] 28)
  have P7 := Lib.hid (show HoldsD (y4.alloc (.cells #[.bool n7, .int .u64 (h7 : Int), .int .u64 (l7 : Int), .int .i64 x7] 28)) y4.heap.size n7 h7 l7 x7 from by simp [HoldsD, go_sem])
  go_upto_region 7 with fail
  obtain ⟨gP7, hg⟩ : ∃ g, g = y4.heap.size := ⟨_, rfl⟩
  rw [← hg] at P7
  rw [← hg]
  generalize y4.alloc (.cells #[.bool n7, .int .u64 (h7 : Int), .int .u64 (l7 : Int), .int .i64 x7] 28) = V4 at *
  clear hg
  obtain ⟨⟨c5_1, c5_2, c5_3, c5_4⟩, -, c5_9⟩ := P3.out
  go_wp2_with fail
  refine (PW0.out _ (HT.out.below B)).mono ?_
  rintro e y5 ⟨n9, h9, l9, x9, k9, N, rfl, hb⟩
  clear c5_1 c5_2 c5_3 c5_4 c5_9
  obtain ⟨rfl, rfl, rfl, rfl, rfl⟩ := numO_small (by decide) N
  replace P3 := Lib.hid (P3.out.below hb)
  replace P4 := Lib.hid (P4.out.below hb)
  replace P5 := Lib.hid (P5.out.below hb)
  replace P7 := Lib.hid (P7.out.below hb)
  replace B := bstep B hb
  clear hb
  clear PW0 N
  replace P3 := Lib.hid (P3.out.alloc (.cells #[.bool false, .int .u64 0, .int .u64 1, .int .i64 0] 28))
  replace P4 := Lib.hid (P4.out.alloc (.cells #[.bool false, .int .u64 0, .int .u64 1, .int .i64 0] 28))
  replace P5 := Lib.hid (P5.out.alloc (.cells #[.bool false, .int .u64 0, .int .u64 1, .int .i64 0] 28))
  replace P7 := Lib.hid (P7.out.alloc (.cells #[.bool false, .int .u64 0, .int .u64 1, .int .i64 0] 28))
  replace B := ballD1 B (.cells #[.bool false, .int .u64 0, .int .u64 1, .int .i64 0] 28)
  have P9 := Lib.hid (show HoldsD (y5.alloc (.cells #[.bool false, .int .u64 0, .int .u64 1, .int .i64 0] 28)) y5.heap.size false 0 1 0 from by simp [HoldsD, go_sem])
  go_upto_region 8 with fail
  obtain ⟨gP9, hg⟩ : ∃ g, g = y5.heap.size := ⟨_, rfl⟩
  rw [← hg] at P9
  rw [← hg]
  generalize y5.alloc (.cells #[.bool false, .int .u64 0, .int .u64 1, .int .i64 0] 28) = V5 at *
  clear hg
  obtain ⟨⟨c6_1, c6_2, c6_3, c6_4⟩, -, c6_9⟩ := P3.out
  obtain ⟨⟨c7_1, c7_2, c7_3, c7_4⟩, -, c7_9⟩ := P4.out
  obtain ⟨⟨c8_1, c8_2, c8_3, c8_4⟩, -, c8_9⟩ := P5.out
  obtain ⟨⟨c9_1, c9_2, c9_3, c9_4⟩, -, c9_9⟩ := P7.out
  obtain ⟨⟨c10_1, c10_2, c10_3, c10_4⟩, -, c10_9⟩ := P9.out
  go_wp2_with fail
  refine (DS.out _ (HT.out.below B)).mono ?_
  rintro e y6 ⟨n11, h11, l11, x11, k11, N, rfl, hb⟩
  clear c6_1 c6_2 c6_3 c6_4 c6_9 c7_1 c7_2 c7_3 c7_4 c7_9 c8_1 c8_2 c8_3 c8_4 c8_9 c9_1 c9_2 c9_3 c9_4 c9_9 c10_1 c10_2 c10_3 c10_4 c10_9
  replace P3 := Lib.hid (P3.out.below hb)
  replace P4 := Lib.hid (P4.out.below hb)
  replace P5 := Lib.hid (P5.out.below hb)
  replace P7 := Lib.hid (P7.out.below hb)
  replace P9 := Lib.hid (P9.out.below hb)
  replace B := bstep B hb
  clear hb
  clear DS
  by_cases z : nv h7 l7 = 0
  · rw [if_pos z] at N
    rw [decide_eq_true z] at ZD
    obtain ⟨-, rfl, rfl, rfl, rfl, rfl⟩ := N
    clear z
    replace P3 := Lib.hid (P3.out.alloc (.cells #[.bool false, .int .u64 0, .int .u64 0, .int .i64 0] 28))
    replace P4 := Lib.hid (P4.out.alloc (.cells #[.bool false, .int .u64 0, .int .u64 0, .int .i64 0] 28))
    replace P5 := Lib.hid (P5.out.alloc (.cells #[.bool false, .int .u64 0, .int .u64 0, .int .i64 0] 28))
    replace P7 := Lib.hid (P7.out.alloc (.cells #[.bool false, .int .u64 0, .int .u64 0, .int .i64 0] 28))
    replace P9 := Lib.hid (P9.out.alloc (.cells #[.bool false, .int .u64 0, .int .u64 0, .int .i64 0] 28))
    replace B := ballD1 B (.cells #[.bool false, .int .u64 0, .int .u64 0, .int .i64 0] 28)
    have P11 := Lib.hid (show HoldsD (y6.alloc (.cells #[.bool false, .int .u64 0, .int .u64 0, .int .i64 0] 28)) y6.heap.size false 0 0 0 from by simp [HoldsD, go_sem])
    go_upto_region 11 with fail
    obtain ⟨gP11, hg⟩ : ∃ g, g = y6.heap.size := ⟨_, rfl⟩
    rw [← hg] at P11
    rw [← hg]
    generalize y6.alloc (.cells #[.bool false, .int .u64 0, .int .u64 0, .int .i64 0] 28) = V6 at *
    clear hg
    obtain ⟨⟨c11_1, c11_2, c11_3, c11_4⟩, -, c11_9⟩ := P3.out
    go_wp2_with fail
    refine (ZD.out _).mono ?_
    rintro e y7 ⟨rfl, hb⟩
    clear c11_1 c11_2 c11_3 c11_4 c11_9
    replace P3 := Lib.hid (P3.out.below hb)
    replace P4 := Lib.hid (P4.out.below hb)
    replace P5 := Lib.hid (P5.out.below hb)
    replace P7 := Lib.hid (P7.out.below hb)
    replace P9 := Lib.hid (P9.out.below hb)
    replace P11 := Lib.hid (P11.out.below hb)
    replace B := bstep B hb
    clear hb
    obtain ⟨⟨c12_1, c12_2, c12_3, c12_4⟩, -, c12_9⟩ := P3.out
    go_wp2_with fail
    refine (ZD.out _).mono ?_
    rintro e y8 ⟨rfl, hb⟩
    clear c12_1 c12_2 c12_3 c12_4 c12_9
    replace P3 := Lib.hid (P3.out.below hb)
    replace P4 := Lib.hid (P4.out.below hb)
    replace P5 := Lib.hid (P5.out.below hb)
    replace P7 := Lib.hid (P7.out.below hb)
    replace P9 := Lib.hid (P9.out.below hb)
    replace P11 := Lib.hid (P11.out.below hb)
    replace B := bstep B hb
    clear hb
    go_wp2
    go_ret
    exact ⟨rfl, B⟩
  · rw [if_neg z] at N
    rw [decide_eq_false z] at ZD
    obtain ⟨rfl, rfl, rfl, rfl, rfl⟩ := numO_small (by decide) N
    clear N
    clear z
    replace P3 := Lib.hid (P3.out.alloc (.cells #[.bool false, .int .u64 0, .int .u64 1, .int .i64 0] 28))
    replace P4 := Lib.hid (P4.out.alloc (.cells #[.bool false, .int .u64 0, .int .u64 1, .int .i64 0] 28))
    replace P5 := Lib.hid (P5.out.alloc (.cells #[.bool false, .int .u64 0, .int .u64 1, .int .i64 0] 28))
    replace P7 := Lib.hid (P7.out.alloc (.cells #[.bool false, .int .u64 0, .int .u64 1, .int .i64 0] 28))
    replace P9 := Lib.hid (P9.out.alloc (.cells #[.bool false, .int .u64 0, .int .u64 1, .int .i64 0] 28))
    replace B := ballD1 B (.cells #[.bool false, .int .u64 0, .int .u64 1, .int .i64 0] 28)
    have P11 := Lib.hid (show HoldsD (y6.alloc (.cells #[.bool false, .int .u64 0, .int .u64 1, .int .i64 0] 28)) y6.heap.size false 0 1 0 from by simp [HoldsD, go_sem])
    go_upto_region 11 with fail
    obtain ⟨gP11, hg⟩ : ∃ g, g = y6.heap.size := ⟨_, rfl⟩
    rw [← hg] at P11
    rw [← hg]
    generalize y6.alloc (.cells #[.bool false, .int .u64 0, .int .u64 1, .int .i64 0] 28) = V6 at *
    clear hg
    obtain ⟨⟨c11_1, c11_2, c11_3, c11_4⟩, -, c11_9⟩ := P3.out
    go_wp2_with fail
    refine (ZD.out _).mono ?_
    rintro e y7 ⟨rfl, hb⟩
    clear c11_1 c11_2 c11_3 c11_4 c11_9
    replace P3 := Lib.hid (P3.out.below hb)
    replace P4 := Lib.hid (P4.out.below hb)
    replace P5 := Lib.hid (P5.out.below hb)
    replace P7 := Lib.hid (P7.out.below hb)
    replace P9 := Lib.hid (P9.out.below hb)
    replace P11 := Lib.hid (P11.out.below hb)
    replace B := bstep B hb
    clear hb
    obtain ⟨⟨c12_1, c12_2, c12_3, c12_4⟩, -, c12_9⟩ := P3.out
    go_wp2_with fail
    refine (ZD.out _).mono ?_
    rintro e y8 ⟨rfl, hb⟩
    clear c12_1 c12_2 c12_3 c12_4 c12_9
    replace P3 := Lib.hid (P3.out.below hb)
    replace P4 := Lib.hid (P4.out.below hb)
    replace P5 := Lib.hid (P5.out.below hb)
    replace P7 := Lib.hid (P7.out.below hb)
    replace P9 := Lib.hid (P9.out.below hb)
    replace P11 := Lib.hid (P11.out.below hb)
    replace B := bstep B hb
    clear hb
    obtain ⟨⟨c13_1, c13_2, c13_3, c13_4⟩, -, c13_9⟩ := P4.out
    obtain ⟨⟨c14_1, c14_2, c14_3, c14_4⟩, -, c14_9⟩ := P11.out
    go_wp2
    go_ret
    exact ⟨rfl, B⟩
end Go.Proofs.YtoobmopmmoficaaDoor
