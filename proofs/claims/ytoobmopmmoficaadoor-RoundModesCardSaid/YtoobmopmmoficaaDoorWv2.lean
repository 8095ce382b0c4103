/-
  The statement RoundModes, walked: it answers true, where the document's examples do.
-/
import Derived.Test.YtoobmopmmoficaaDoorVall
import Derived.Deep.RegionHeld3
namespace Go.Proofs.YtoobmopmmoficaaDoor
open Go.RowKit

theorem scF_stay {m : Nat} {s : Bool} {N : Nat} {y : Int} (h : nd N ≤ 34) (z : N = 0 → s = false) : scF m s N y y = some (s, N, y) := by
  have k := scF_self (m := m) (neg := s) (N := N) (y := y) h
  have e : (s && !decide (N = 0)) = s := by
    by_cases q : N = 0
    · rw [z q]; rfl
    · rw [decide_eq_false q]; cases s <;> rfl
  rw [e] at k
  exact k
/-- A mode out of a byte. -/
theorem mode_of (r : Int) (h1 : 0 ≤ r) (h2 : r ≤ 6) : ∃ m : Nat, (m = 1 ∨ m = 2 ∨ m = 3 ∨ m = 4 ∨ m = 5 ∨ m = 6 ∨ m = 7) ∧ (m : Int) = 1 + r := ⟨(1 + r).toNat, by omega, by omega⟩

set_option linter.unusedSimpArgs false in
set_option maxRecDepth 100000 in
set_option maxHeartbeats 8000000 in
theorem roundModes_walk (AW : ∀ w : World, Tab w → Calls Tryd.prog 31 #[] w (RetB true w)) (n : Bool) (h l : Nat) (x : Int) (k m : Int) (h0 : WW h l) (x1 : -9223372036854775808 ≤ x) (x2 : x ≤ 9223372036854775807) (_k1 : -9223372036854775808 ≤ k) (_k2 : k ≤ 9223372036854775807) (m1 : 0 ≤ m) (m2 : m ≤ 255) (w : World) (ht : Tab w) :
    Calls Tryd.prog 8 #[Dv n h l x, .int .i64 k, .int .u8 m] w (RetB true w) := by
  have HT := Lib.hid ht
  have AWH := Lib.hid AW
  have M1 := Lib.hid (make_any n h l x h0 x1 x2)
  obtain ⟨r, hr⟩ : ∃ r : Int, r = m % 7 := ⟨_, rfl⟩
  obtain ⟨q, hq⟩ : ∃ q : Int, q = m / 7 := ⟨_, rfl⟩
  obtain ⟨r2, hr2⟩ : ∃ r : Int, r = q % 7 := ⟨_, rfl⟩
  obtain ⟨mo, hmo, emo⟩ := mode_of r (by omega) (by omega)
  obtain ⟨mp, hmp, emp⟩ := mode_of r2 (by omega) (by omega)
  obtain ⟨mi, hmi⟩ : ∃ i : Int, i = (mo : Int) := ⟨_, rfl⟩
  obtain ⟨mj, hmj⟩ : ∃ i : Int, i = (mp : Int) := ⟨_, rfl⟩
  have a1 : m % 7 = r := hr.symm
  have a2 : m / 7 = q := hq.symm
  have a3 : q % 7 = r2 := hr2.symm
  have a4 : 1 + r = mi := by omega
  have a5 : 1 + r2 = mj := by omega
  have a6 : IntKind.u8.wrap mi = mi := by show mi % 256 = mi; omega
  have a7 : IntKind.u8.wrap mj = mj := by show mj % 256 = mj; omega
  have a8 : IntKind.i64.wrap mi = mi := by rw [IntKind.wrap_i64]; omega
  have a9 : IntKind.i64.wrap mj = mj := by rw [IntKind.wrap_i64]; omega
  have b1 : IntKind.u8.wrap r = r := by show r % 256 = r; omega
  have b2 : IntKind.u8.wrap q = q := by show q % 256 = q; omega
  have b3 : IntKind.u8.wrap r2 = r2 := by show r2 % 256 = r2; omega
  have b4 : m.tmod 7 = r := by rw [Int.tmod_eq_emod_of_nonneg m1, hr]
  have b5 : m.tdiv 7 = q := by rw [Int.tdiv_eq_ediv_of_nonneg m1, hq]
  have b6 : q.tmod 7 = r2 := by rw [Int.tmod_eq_emod_of_nonneg (by omega), hr2]
  have HMM := Lib.hid (And.intro hmo (And.intro hmp (And.intro hmi hmj)))
  clear ht AW h0 x1 x2 m1 m2 hr hq hr2 emo emp hmo hmp hmi hmj
  go_enter Tryd.func8, Tryd.ntmps8
  go_wp2_with fail
  refine (AWH.out _ (HT.out.below (by go_grown))).mono ?_
  rintro e' w1 ⟨rfl, hb1⟩
  have A0 := Lib.hid (HoldsD.below (by simp [HoldsD, go_sem]) hb1 : HoldsD w1 w.heap.size n h l x)
  have B : Below w.heap.size w w1 := bstep (by go_grown) hb1
  clear hb1 AWH
  obtain ⟨⟨c1_1, c1_2, c1_3, c1_4⟩, -, c1_9⟩ := A0.out
  go_wp2_with fail
  refine (M1.out _ (HT.out.below B)).mono ?_
  rintro e y1 ⟨na, ah, al, ea, NA, rfl, hb⟩
  clear c1_1 c1_2 c1_3 c1_4 c1_9
  replace A0 := Lib.hid (A0.out.below hb)
  replace B := bstep B hb
  clear hb
  clear M1
  clear A0
  replace B := ballD1 B (.cells #[.bool na, .int .u64 (ah : Int), .int .u64 (al : Int), .int .i64 ea] 28)
  have P7 := Lib.hid (show HoldsD (y1.alloc (.cells #[.bool na, .int .u64 (ah : Int), .int .u64 (al : Int), .int .i64 ea] 28)) y1.heap.size na ah al ea from by simp [HoldsD, go_sem])
  go_upto_region 4 with fail
  obtain ⟨gP7, hg⟩ : ∃ g, g = y1.heap.size := ⟨_, rfl⟩
  rw [← hg] at P7
  rw [← hg]
  generalize y1.alloc (.cells #[.bool na, .int .u64 (ah : Int), .int .u64 (al : Int), .int .i64 ea] 28) = V1 at *
  clear hg
  have HN := Lib.hid NA
  obtain ⟨o6, ho6, S6⟩ : ∃ o, ((-6111 ≤ k ∧ k ≤ 6176 ∧ o = scF 6 na (nv ah al) ea (-k)) ∨ ((k < -6111 ∨ 6176 < k) ∧ o = none)) ∧ ∀ w : World, Tab w → Calls Tryd.prog 37 #[Dv na ah al ea, .int .i64 k, .int .i64 6] w (RetDO o w) := by
    by_cases c : -6111 ≤ k ∧ k ≤ 6176
    · exact ⟨_, .inl ⟨c.1, c.2, rfl⟩, fun w ht => scale_any 6 (by decide) na ah al ea k NA.1 NA.2.1 c.1 c.2 w ht⟩
    · exact ⟨none, .inr ⟨by omega, rfl⟩, fun w ht => scale_no na ah al ea k 6 (by omega) w⟩
  obtain ⟨o7, ho7, S7⟩ : ∃ o, ((-6111 ≤ k ∧ k ≤ 6176 ∧ o = scF 7 na (nv ah al) ea (-k)) ∨ ((k < -6111 ∨ 6176 < k) ∧ o = none)) ∧ ∀ w : World, Tab w → Calls Tryd.prog 37 #[Dv na ah al ea, .int .i64 k, .int .i64 7] w (RetDO o w) := by
    by_cases c : -6111 ≤ k ∧ k ≤ 6176
    · exact ⟨_, .inl ⟨c.1, c.2, rfl⟩, fun w ht => scale_any 7 (by decide) na ah al ea k NA.1 NA.2.1 c.1 c.2 w ht⟩
    · exact ⟨none, .inr ⟨by omega, rfl⟩, fun w ht => scale_no na ah al ea k 7 (by omega) w⟩
  obtain ⟨om, hom, SM⟩ : ∃ o, ((-6111 ≤ k ∧ k ≤ 6176 ∧ o = scF mo na (nv ah al) ea (-k)) ∨ ((k < -6111 ∨ 6176 < k) ∧ o = none)) ∧ ∀ w : World, Tab w → Calls Tryd.prog 37 #[Dv na ah al ea, .int .i64 k, .int .i64 mi] w (RetDO o w) := by
    rw [HMM.out.2.2.1]
    by_cases c : -6111 ≤ k ∧ k ≤ 6176
    · exact ⟨_, .inl ⟨c.1, c.2, rfl⟩, fun w ht => scale_any mo HMM.out.1 na ah al ea k NA.1 NA.2.1 c.1 c.2 w ht⟩
    · exact ⟨none, .inr ⟨by omega, rfl⟩, fun w ht => scale_no na ah al ea k mo (by omega) w⟩
  have HS6 := Lib.hid S6
  have HS7 := Lib.hid S7
  have HSM := Lib.hid SM
  have HO := Lib.hid (And.intro ho6 (And.intro ho7 hom))
  clear S6 S7 SM ho6 ho7 hom NA
  obtain ⟨⟨c2_1, c2_2, c2_3, c2_4⟩, -, c2_9⟩ := P7.out
  go_wp2_with fail
  refine (HS6.out _ (HT.out.below B)).mono ?_
  rintro e y2 ⟨n8, h8, l8, x8, k8, N8, rfl, hb⟩
  clear c2_1 c2_2 c2_3 c2_4 c2_9
  replace P7 := Lib.hid (P7.out.below hb)
  replace B := bstep B hb
  clear hb
  clear HS6
  replace P7 := Lib.hid (P7.out.alloc (.cells #[.bool n8, .int .u64 (h8 : Int), .int .u64 (l8 : Int), .int .i64 x8] 28))
  replace B := ballD1 B (.cells #[.bool n8, .int .u64 (h8 : Int), .int .u64 (l8 : Int), .int .i64 x8] 28)
  have P8 := Lib.hid (show HoldsD (y2.alloc (.cells #[.bool n8, .int .u64 (h8 : Int), .int .u64 (l8 : Int), .int .i64 x8] 28)) y2.heap.size n8 h8 l8 x8 from by simp [HoldsD, go_sem])
  go_upto_region 5 with fail
  obtain ⟨gP8, hg⟩ : ∃ g, g = y2.heap.size := ⟨_, rfl⟩
  rw [← hg] at P8
  rw [← hg]
  generalize y2.alloc (.cells #[.bool n8, .int .u64 (h8 : Int), .int .u64 (l8 : Int), .int .i64 x8] 28) = V2 at *
  clear hg
  have HN8 := Lib.hid N8
  clear N8
  obtain ⟨⟨c3_1, c3_2, c3_3, c3_4⟩, -, c3_9⟩ := P7.out
  go_wp2_with fail
  refine (HS7.out _ (HT.out.below B)).mono ?_
  rintro e y3 ⟨n10, h10, l10, x10, k10, N10, rfl, hb⟩
  clear c3_1 c3_2 c3_3 c3_4 c3_9
  replace P7 := Lib.hid (P7.out.below hb)
  replace P8 := Lib.hid (P8.out.below hb)
  replace B := bstep B hb
  clear hb
  clear HS7
  replace P7 := Lib.hid (P7.out.alloc (.cells #[.bool n10, .int .u64 (h10 : Int), .int .u64 (l10 : Int), .int .i64 x10] 28))
  replace P8 := Lib.hid (P8.out.alloc (.cells #[.bool n10, .int .u64 (h10 : Int), .int .u64 (l10 : Int), .int .i64 x10] 28))
  replace B := ballD1 B (.cells #[.bool n10, .int .u64 (h10 : Int), .int .u64 (l10 : Int), .int .i64 x10] 28)
  have P10 := Lib.hid (show HoldsD (y3.alloc (.cells #[.bool n10, .int .u64 (h10 : Int), .int .u64 (l10 : Int), .int .i64 x10] 28)) y3.heap.size n10 h10 l10 x10 from by simp [HoldsD, go_sem])
  go_upto_region 6 with fail
  obtain ⟨gP10, hg⟩ : ∃ g, g = y3.heap.size := ⟨_, rfl⟩
  rw [← hg] at P10
  rw [← hg]
  generalize y3.alloc (.cells #[.bool n10, .int .u64 (h10 : Int), .int .u64 (l10 : Int), .int .i64 x10] 28) = V3 at *
  clear hg
  have HN10 := Lib.hid N10
  clear N10
  obtain ⟨⟨c4_1, c4_2, c4_3, c4_4⟩, -, c4_9⟩ := P7.out
  go_wp2_with fail
  refine (HSM.out _ (HT.out.below B)).mono ?_
  rintro e y4 ⟨n12, h12, l12, x12, k12, N12, rfl, hb⟩
  clear c4_1 c4_2 c4_3 c4_4 c4_9
  replace P7 := Lib.hid (P7.out.below hb)
  replace P8 := Lib.hid (P8.out.below hb)
  replace P10 := Lib.hid (P10.out.below hb)
  replace B := bstep B hb
  clear hb
  clear HSM
  replace P7 := Lib.hid (P7.out.alloc (.cells #[.bool n12, .int .u64 (h12 : Int), .int .u64 (l12 : Int), .int .i64 x12] 28))
  replace P8 := Lib.hid (P8.out.alloc (.cells #[.bool n12, .int .u64 (h12 : Int), .int .u64 (l12 : Int), .int .i64 x12] 28))
  replace P10 := Lib.hid (P10.out.alloc (.cells #[.bool n12, .int .u64 (h12 : Int), .int .u64 (l12 : Int), .int .i64 x12] 28))
  replace B := ballD1 B (.cells #[.bool n12, .int .u64 (h12 : Int), .int .u64 (l12 : Int), .int .i64 x12] 28)
  have P12 := Lib.hid (show HoldsD (y4.alloc (.cells #[.bool n12, .int .u64 (h12 : Int), .int .u64 (l12 : Int), .int .i64 x12] 28)) y4.heap.size n12 h12 l12 x12 from by simp [HoldsD, go_sem])
  go_upto_region 7 with fail
  obtain ⟨gP12, hg⟩ : ∃ g, g = y4.heap.size := ⟨_, rfl⟩
  rw [← hg] at P12
  rw [← hg]
  generalize y4.alloc (.cells #[.bool n12, .int .u64 (h12 : Int), .int .u64 (l12 : Int), .int .i64 x12] 28) = V4 at *
  clear hg
  have HN12 := Lib.hid N12
  clear N12
  rcases o6 with _ | ⟨s6, c6, e6⟩
  · obtain ⟨-, rfl, -⟩ := HN8.out
    go_wp2
    go_ret
    exact ⟨rfl, B⟩
  rcases o7 with _ | ⟨s7, c7, e7⟩
  · obtain ⟨-, rfl, -⟩ := HN8.out
    obtain ⟨-, rfl, -⟩ := HN10.out
    go_wp2
    go_ret
    exact ⟨rfl, B⟩
  obtain ⟨W8, rfl, rfl, rfl, rfl⟩ := HN8.out
  obtain ⟨W10, rfl, rfl, rfl, rfl⟩ := HN10.out
  obtain ⟨kr1, kr2, h6⟩ : -6111 ≤ k ∧ k ≤ 6176 ∧ some (n8, nv h8 l8, x8) = scF 6 na (nv ah al) ea (-k) := by
    rcases HO.out.1 with h | h
    · exact h
    · exact absurd h.2 (by simp)
  obtain ⟨-, -, h7⟩ : -6111 ≤ k ∧ k ≤ 6176 ∧ some (n10, nv h10 l10, x10) = scF 7 na (nv ah al) ea (-k) := by
    rcases HO.out.2.1 with h | h
    · exact h
    · exact absurd h.2 (by simp)
  have hm : om = scF mo na (nv ah al) ea (-k) := by
    rcases HO.out.2.2 with h | h
    · exact h.2.2
    · omega
  obtain ⟨T1, T2, T3⟩ := scale_three (m := mo) HN.out.2.1 HN.out.2.2 (show -6176 ≤ -k by omega) h6.symm h7.symm
  obtain ⟨D8, z8, y8, d8⟩ := scF_num h6.symm (show -6176 ≤ -k by omega) (show -k ≤ 6111 by omega)
  obtain ⟨D10, z10, y10, d10⟩ := scF_num h7.symm (show -6176 ≤ -k by omega) (show -k ≤ 6111 by omega)
  have E8 := Lib.hid (show ∀ w : World, Tab w → Calls Tryd.prog 37 #[Dv n8 h8 l8 x8, .int .i64 k, .int .i64 mj] w (RetDO (some (n8, nv h8 l8, x8)) w) from fun w ht => by
    have q := scale_any mp HMM.out.2.1 n8 h8 l8 x8 k W8 D8 kr1 kr2 w ht
    rw [← y8, scF_stay d8 z8, ← HMM.out.2.2.2] at q
    exact q)
  have E10 := Lib.hid (show ∀ w : World, Tab w → Calls Tryd.prog 37 #[Dv n10 h10 l10 x10, .int .i64 k, .int .i64 mj] w (RetDO (some (n10, nv h10 l10, x10)) w) from fun w ht => by
    have q := scale_any mp HMM.out.2.1 n10 h10 l10 x10 k W10 D10 kr1 kr2 w ht
    rw [← y10, scF_stay d10 z10, ← HMM.out.2.2.2] at q
    exact q)
  have C1 := Lib.hid (cmp_dec n8 h8 l8 x8 na ah al ea W8 HN.out.1 D8.2.1 D8.2.2 HN.out.2.1.2.1 HN.out.2.1.2.2)
  rw [cmpD_val D8 HN.out.2.1] at C1
  have C2 := Lib.hid (cmp_dec na ah al ea n10 h10 l10 x10 HN.out.1 W10 HN.out.2.1.2.1 HN.out.2.1.2.2 D10.2.1 D10.2.2)
  rw [cmpD_val HN.out.2.1 D10] at C2
  have t1 : decide (cmpZ (vlZ n8 (nv h8 l8) x8) (vlZ na (nv ah al) ea) ≤ 0) = true := decide_eq_true (cmpZ_le.2 T2)
  have t2 : decide (cmpZ (vlZ na (nv ah al) ea) (vlZ n10 (nv h10 l10) x10) ≤ 0) = true := decide_eq_true (cmpZ_le.2 T3)
  generalize cmpZ (vlZ n8 (nv h8 l8) x8) (vlZ na (nv ah al) ea) = cv1 at *
  generalize cmpZ (vlZ na (nv ah al) ea) (vlZ n10 (nv h10 l10) x10) = cv2 at *
  have HX := Lib.hid (And.intro W8 (And.intro W10 (show om = some (n8, nv h8 l8, x8) ∨ om = some (n10, nv h10 l10, x10) from by rw [hm]; exact T1)))
  clear kr1 kr2 h6 h7 hm T1 T2 T3 D8 z8 y8 d8 D10 z10 y10 d10 W8 W10 HO HN8 HN10
  rcases HX.out.2.2 with r12 | r12

  · rw [r12] at HN12
    obtain ⟨rfl, rfl, rfl, rfl, rfl⟩ := numO_self HX.out.1 HN12.out
    clear HN12 r12
    obtain ⟨⟨c5_1, c5_2, c5_3, c5_4⟩, -, c5_9⟩ := P12.out
    go_wp2_with fail
    refine (E8.out _ (HT.out.below B)).mono ?_
    rintro e y5 ⟨n14, h14, l14, x14, k14, N14, rfl, hb⟩
    clear c5_1 c5_2 c5_3 c5_4 c5_9
    obtain ⟨rfl, rfl, rfl, rfl, rfl⟩ := numO_self HX.out.1 N14
    replace P7 := Lib.hid (P7.out.below hb)
    replace P8 := Lib.hid (P8.out.below hb)
    replace P10 := Lib.hid (P10.out.below hb)
    replace P12 := Lib.hid (P12.out.below hb)
    replace B := bstep B hb
    clear hb
    clear N14 E8 E10
    replace P7 := Lib.hid (P7.out.alloc (.cells #[.bool n14, .int .u64 (h14 : Int), .int .u64 (l14 : Int), .int .i64 x14] 28))
    replace P8 := Lib.hid (P8.out.alloc (.cells #[.bool n14, .int .u64 (h14 : Int), .int .u64 (l14 : Int), .int .i64 x14] 28))
    replace P10 := Lib.hid (P10.out.alloc (.cells #[.bool n14, .int .u64 (h14 : Int), .int .u64 (l14 : Int), .int .i64 x14] 28))
    replace P12 := Lib.hid (P12.out.alloc (.cells #[.bool n14, .int .u64 (h14 : Int), .int .u64 (l14 : Int), .int .i64 x14] 28))
    replace B := ballD1 B (.cells #[.bool n14, .int .u64 (h14 : Int), .int .u64 (l14 : Int), .int .i64 x14] 28)
    have P14 := Lib.hid (show HoldsD (y5.alloc (.cells #[.bool n14, .int .u64 (h14 : Int), .int .u64 (l14 : Int), .int .i64 x14] 28)) y5.heap.size n14 h14 l14 x14 from by simp [HoldsD, go_sem])
    go_upto_region 10 with fail
    obtain ⟨gP14, hg⟩ : ∃ g, g = y5.heap.size := ⟨_, rfl⟩
    rw [← hg] at P14
    rw [← hg]
    generalize y5.alloc (.cells #[.bool n14, .int .u64 (h14 : Int), .int .u64 (l14 : Int), .int .i64 x14] 28) = V5 at *
    clear hg
    obtain ⟨⟨c6_1, c6_2, c6_3, c6_4⟩, -, c6_9⟩ := P8.out
    obtain ⟨⟨c7_1, c7_2, c7_3, c7_4⟩, -, c7_9⟩ := P7.out
    go_wp2_with fail
    refine (C1.out _ (HT.out.below B)).mono ?_
    rintro e y6 ⟨rfl, hb⟩
    clear c6_1 c6_2 c6_3 c6_4 c6_9 c7_1 c7_2 c7_3 c7_4 c7_9
    replace P7 := Lib.hid (P7.out.below hb)
    replace P8 := Lib.hid (P8.out.below hb)
    replace P10 := Lib.hid (P10.out.below hb)
    replace P12 := Lib.hid (P12.out.below hb)
    replace P14 := Lib.hid (P14.out.below hb)
    replace B := bstep B hb
    clear hb
    clear C1
    obtain ⟨⟨c8_1, c8_2, c8_3, c8_4⟩, -, c8_9⟩ := P7.out
    obtain ⟨⟨c9_1, c9_2, c9_3, c9_4⟩, -, c9_9⟩ := P10.out
    go_wp2_with fail
    refine (C2.out _ (HT.out.below B)).mono ?_
    rintro e y7 ⟨rfl, hb⟩
    clear c8_1 c8_2 c8_3 c8_4 c8_9 c9_1 c9_2 c9_3 c9_4 c9_9
    replace P7 := Lib.hid (P7.out.below hb)
    replace P8 := Lib.hid (P8.out.below hb)
    replace P10 := Lib.hid (P10.out.below hb)
    replace P12 := Lib.hid (P12.out.below hb)
    replace P14 := Lib.hid (P14.out.below hb)
    replace B := bstep B hb
    clear hb
    clear C2 HX HMM
    obtain ⟨⟨c10_1, c10_2, c10_3, c10_4⟩, -, c10_9⟩ := P8.out
    obtain ⟨⟨c11_1, c11_2, c11_3, c11_4⟩, -, c11_9⟩ := P10.out
    obtain ⟨⟨c12_1, c12_2, c12_3, c12_4⟩, -, c12_9⟩ := P12.out
    obtain ⟨⟨c13_1, c13_2, c13_3, c13_4⟩, -, c13_9⟩ := P14.out
    go_wp2
    go_ret
    exact ⟨rfl, B⟩
  · rw [r12] at HN12
    obtain ⟨rfl, rfl, rfl, rfl, rfl⟩ := numO_self HX.out.2.1 HN12.out
    clear HN12 r12
    obtain ⟨⟨c5_1, c5_2, c5_3, c5_4⟩, -, c5_9⟩ := P12.out
    go_wp2_with fail
    refine (E10.out _ (HT.out.below B)).mono ?_
    rintro e y5 ⟨n14, h14, l14, x14, k14, N14, rfl, hb⟩
    clear c5_1 c5_2 c5_3 c5_4 c5_9
    obtain ⟨rfl, rfl, rfl, rfl, rfl⟩ := numO_self HX.out.2.1 N14
    replace P7 := Lib.hid (P7.out.below hb)
    replace P8 := Lib.hid (P8.out.below hb)
    replace P10 := Lib.hid (P10.out.below hb)
    replace P12 := Lib.hid (P12.out.below hb)
    replace B := bstep B hb
    clear hb
    clear N14 E8 E10
    replace P7 := Lib.hid (P7.out.alloc (.cells #[.bool n14, .int .u64 (h14 : Int), .int .u64 (l14 : Int), .int .i64 x14] 28))
    replace P8 := Lib.hid (P8.out.alloc (.cells #[.bool n14, .int .u64 (h14 : Int), .int .u64 (l14 : Int), .int .i64 x14] 28))
    replace P10 := Lib.hid (P10.out.alloc (.cells #[.bool n14, .int .u64 (h14 : Int), .int .u64 (l14 : Int), .int .i64 x14] 28))
    replace P12 := Lib.hid (P12.out.alloc (.cells #[.bool n14, .int .u64 (h14 : Int), .int .u64 (l14 : Int), .int .i64 x14] 28))
    replace B := ballD1 B (.cells #[.bool n14, .int .u64 (h14 : Int), .int .u64 (l14 : Int), .int .i64 x14] 28)
    have P14 := Lib.hid (show HoldsD (y5.alloc (.cells #[.bool n14, .int .u64 (h14 : Int), .int .u64 (l14 : Int), .int .i64 x14] 28)) y5.heap.size n14 h14 l14 x14 from by simp [HoldsD, go_sem])
    go_upto_region 10 with fail
    obtain ⟨gP14, hg⟩ : ∃ g, g = y5.heap.size := ⟨_, rfl⟩
    rw [← hg] at P14
    rw [← hg]
    generalize y5.alloc (.cells #[.bool n14, .int .u64 (h14 : Int), .int .u64 (l14 : Int), .int .i64 x14] 28) = V5 at *
    clear hg
    obtain ⟨⟨c6_1, c6_2, c6_3, c6_4⟩, -, c6_9⟩ := P8.out
    obtain ⟨⟨c7_1, c7_2, c7_3, c7_4⟩, -, c7_9⟩ := P7.out
    go_wp2_with fail
    refine (C1.out _ (HT.out.below B)).mono ?_
    rintro e y6 ⟨rfl, hb⟩
    clear c6_1 c6_2 c6_3 c6_4 c6_9 c7_1 c7_2 c7_3 c7_4 c7_9
    replace P7 := Lib.hid (P7.out.below hb)
    replace P8 := Lib.hid (P8.out.below hb)
    replace P10 := Lib.hid (P10.out.below hb)
    replace P12 := Lib.hid (P12.out.below hb)
    replace P14 := Lib.hid (P14.out.below hb)
    replace B := bstep B hb
    clear hb
    clear C1
    obtain ⟨⟨c8_1, c8_2, c8_3, c8_4⟩, -, c8_9⟩ := P7.out
    obtain ⟨⟨c9_1, c9_2, c9_3, c9_4⟩, -, c9_9⟩ := P10.out
    go_wp2_with fail
    refine (C2.out _ (HT.out.below B)).mono ?_
    rintro e y7 ⟨rfl, hb⟩
    clear c8_1 c8_2 c8_3 c8_4 c8_9 c9_1 c9_2 c9_3 c9_4 c9_9
    replace P7 := Lib.hid (P7.out.below hb)
    replace P8 := Lib.hid (P8.out.below hb)
    replace P10 := Lib.hid (P10.out.below hb)
    replace P12 := Lib.hid (P12.out.below hb)
    replace P14 := Lib.hid (P14.out.below hb)
    replace B := bstep B hb
    clear hb
    clear C2 HX HMM
    obtain ⟨⟨c10_1, c10_2, c10_3, c10_4⟩, -, c10_9⟩ := P8.out
    obtain ⟨⟨c11_1, c11_2, c11_3, c11_4⟩, -, c11_9⟩ := P10.out
    obtain ⟨⟨c12_1, c12_2, c12_3, c12_4⟩, -, c12_9⟩ := P12.out
    obtain ⟨⟨c13_1, c13_2, c13_3, c13_4⟩, -, c13_9⟩ := P14.out
    go_wp2
    all_goals
      go_ret
      exact ⟨rfl, B⟩
end Go.Proofs.YtoobmopmmoficaaDoor
