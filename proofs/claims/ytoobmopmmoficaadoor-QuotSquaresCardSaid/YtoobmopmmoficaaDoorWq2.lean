/-
  The statement QuotSquares, walked: it answers true, where the document's examples do.
-/
import Derived.Test.YtoobmopmmoficaaDoorUall
import Derived.Test.YtoobmopmmoficaaDoorOf
import Derived.Deep.RegionHeld3
namespace Go.Proofs.YtoobmopmmoficaaDoor
open Go.RowKit

set_option maxRecDepth 100000 in
set_option maxHeartbeats 8000000 in
theorem quotSquares_walk (AW : ∀ w : World, Tab w → Calls Tryd.prog 15 #[] w (RetB true w)) (p e : Int) (n : Bool) (h l : Nat) (x : Int) (p1 : 0 ≤ p) (p2 : p ≤ 4294967295) (e1 : -128 ≤ e) (e2 : e ≤ 127) (h0 : WW h l) (x1 : -9223372036854775808 ≤ x) (x2 : x ≤ 9223372036854775807) (w : World) (ht : Tab w) :
    Calls Tryd.prog 5 #[.int .u32 p, .int .i8 e, Dv n h l x] w (RetB true w) := by
  have HT := Lib.hid ht
  have AWH := Lib.hid AW
  have M1 := Lib.hid (make_any n h l x h0 x1 x2)
  obtain ⟨c, rfl⟩ : ∃ c : Nat, p = (c : Int) := ⟨p.toNat, by omega⟩
  have hc : c < 4294967296 := by omega
  have cc : c * c < 18446744073709551616 := Nat.lt_of_le_of_lt (Nat.mul_le_mul (show c ≤ 4294967295 by omega) (show c ≤ 4294967295 by omega)) (by decide)
  have OF := Lib.hid (of3 c e)
  have MU := Lib.hid (mulD_any false 0 c e false 0 c e (ww1 (by omega)) (ww1 (by omega)) (by omega) (by omega) (by omega) (by omega))
  rw [nv01] at MU
  have ms : mulF false c e false c e = some (false, c * c, e + e) := fitF_self ⟨Nat.lt_of_lt_of_le cc (by decide), by omega, by omega⟩ (fun _ => rfl)
  rw [ms] at MU
  have CS := Lib.hid (And.intro hc (And.intro cc (And.intro e1 e2)))
  have u1 : IntKind.u64.wrap (c : Int) = (c : Int) := by rw [IntKind.wrap_u64]; omega
  have u2 : IntKind.i64.wrap e = e := by rw [IntKind.wrap_i64]; omega
  clear ht AW h0 x1 x2 p1 p2 e1 e2 hc cc ms
  go_enter Tryd.func5, Tryd.ntmps5
  go_wp2_with fail
  refine (AWH.out _ (HT.out.below (by go_grown))).mono ?_
  rintro e' w1 ⟨rfl, hb1⟩
  have A0 := Lib.hid (HoldsD.below (by simp [HoldsD, go_sem]) hb1 : HoldsD w1 w.heap.size n h l x)
  have B : Below w.heap.size w w1 := bstep (by go_grown) hb1
  clear hb1 AWH
  go_wp2_with fail
  refine (OF.out _).mono ?_
  rintro e y1 ⟨n', h', l', x', ⟨rfl, rfl, rfl, rfl⟩, rfl, hb⟩
  replace A0 := Lib.hid (A0.out.below hb)
  replace B := bstep B hb
  clear hb
  clear OF
  replace A0 := Lib.hid (A0.out.alloc (.cells #[.bool false, .int .u64 0, .int .u64 (l' : Int), .int .i64 x'] 28))
  replace B := ballD1 B (.cells #[.bool false, .int .u64 0, .int .u64 (l' : Int), .int .i64 x'] 28)
  have P7 := Lib.hid (show HoldsD (y1.alloc (.cells #[.bool false, .int .u64 0, .int .u64 (l' : Int), .int .i64 x'] 28)) y1.heap.size false 0 l' x' from by simp [HoldsD, go_sem])
  go_upto_region 4 with fail
  obtain ⟨gP7, hg⟩ : ∃ g, g = y1.heap.size := ⟨_, rfl⟩
  rw [← hg] at P7
  rw [← hg]
  generalize y1.alloc (.cells #[.bool false, .int .u64 0, .int .u64 (l' : Int), .int .i64 x'] 28) = V1 at *
  clear hg
  obtain ⟨⟨c1_1, c1_2, c1_3, c1_4⟩, -, c1_9⟩ := P7.out
  go_wp2_with fail
  refine (MU.out _ (HT.out.below B)).mono ?_
  rintro e y2 ⟨n8, h8, l8, x8, k8, N, rfl, hb⟩
  clear c1_1 c1_2 c1_3 c1_4 c1_9
  obtain ⟨rfl, rfl, rfl, q1, q2⟩ := numO_small CS.out.2.1 N
  have HM := Lib.hid (And.intro q1 q2)
  clear q1 q2
  replace A0 := Lib.hid (A0.out.below hb)
  replace P7 := Lib.hid (P7.out.below hb)
  replace B := bstep B hb
  clear hb
  clear MU N
  replace A0 := Lib.hid (A0.out.alloc (.cells #[.bool false, .int .u64 0, .int .u64 (l8 : Int), .int .i64 x8] 28))
  replace P7 := Lib.hid (P7.out.alloc (.cells #[.bool false, .int .u64 0, .int .u64 (l8 : Int), .int .i64 x8] 28))
  replace B := ballD1 B (.cells #[.bool false, .int .u64 0, .int .u64 (l8 : Int), .int .i64 x8] 28)
  have P8 := Lib.hid (show HoldsD (y2.alloc (.cells #[.bool false, .int .u64 0, .int .u64 (l8 : Int), .int .i64 x8] 28)) y2.heap.size false 0 l8 x8 from by simp [HoldsD, go_sem])
  go_upto_region 5 with fail
  obtain ⟨gP8, hg⟩ : ∃ g, g = y2.heap.size := ⟨_, rfl⟩
  rw [← hg] at P8
  rw [← hg]
  generalize y2.alloc (.cells #[.bool false, .int .u64 0, .int .u64 (l8 : Int), .int .i64 x8] 28) = V2 at *
  clear hg
  have RT := Lib.hid (show ∀ w : World, Tab w → Calls Tryd.prog 17 #[Dv false 0 l8 x8] w (RetDO (some (false, l', x')) w) from fun w ht => by
    have c1 := CS.out
    have c2 := HM.out
    have k := rootD_any 0 l8 x8 (ww1 (by rw [c2.1]; exact c1.2.1)) (by rw [nv01, c2.1, c2.2]; exact ⟨Nat.lt_of_lt_of_le c1.2.1 (by decide), by omega, by omega⟩) w ht
    rw [nv01, c2.1, c2.2] at k
    rw [c2.1, c2.2]
    exact k.mono fun e w' H => RetDP.det (fun o R => RootP_square R) H)
  obtain ⟨⟨c2_1, c2_2, c2_3, c2_4⟩, -, c2_9⟩ := P8.out
  go_wp2_with fail
  refine (RT.out _ (HT.out.below B)).mono ?_
  rintro e y3 ⟨n10, h10, l10, x10, k10, N, rfl, hb⟩
  clear c2_1 c2_2 c2_3 c2_4 c2_9
  obtain ⟨rfl, rfl, rfl, rfl, rfl⟩ := numO_small (by have := CS.out.1; omega) N
  replace A0 := Lib.hid (A0.out.below hb)
  replace P7 := Lib.hid (P7.out.below hb)
  replace P8 := Lib.hid (P8.out.below hb)
  replace B := bstep B hb
  clear hb
  clear RT N HM CS
  clear P8
  replace A0 := Lib.hid (A0.out.alloc (.cells #[.bool false, .int .u64 0, .int .u64 (l10 : Int), .int .i64 x10] 28))
  replace P7 := Lib.hid (P7.out.alloc (.cells #[.bool false, .int .u64 0, .int .u64 (l10 : Int), .int .i64 x10] 28))
  replace B := ballD1 B (.cells #[.bool false, .int .u64 0, .int .u64 (l10 : Int), .int .i64 x10] 28)
  have P10 := Lib.hid (show HoldsD (y3.alloc (.cells #[.bool false, .int .u64 0, .int .u64 (l10 : Int), .int .i64 x10] 28)) y3.heap.size false 0 l10 x10 from by simp [HoldsD, go_sem])
  go_upto_region 6 with fail
  obtain ⟨gP10, hg⟩ : ∃ g, g = y3.heap.size := ⟨_, rfl⟩
  rw [← hg] at P10
  rw [← hg]
  generalize y3.alloc (.cells #[.bool false, .int .u64 0, .int .u64 (l10 : Int), .int .i64 x10] 28) = V3 at *
  clear hg
  obtain ⟨⟨c3_1, c3_2, c3_3, c3_4⟩, -, c3_9⟩ := P7.out
  obtain ⟨⟨c4_1, c4_2, c4_3, c4_4⟩, -, c4_9⟩ := P10.out
  obtain ⟨⟨c5_1, c5_2, c5_3, c5_4⟩, -, c5_9⟩ := A0.out
  go_wp2_with fail
  refine (M1.out _ (HT.out.below B)).mono ?_
  rintro e y4 ⟨nb, bh, bl, eb, NB, rfl, hb⟩
  clear c3_1 c3_2 c3_3 c3_4 c3_9 c4_1 c4_2 c4_3 c4_4 c4_9 c5_1 c5_2 c5_3 c5_4 c5_9
  replace A0 := Lib.hid (A0.out.below hb)
  replace P7 := Lib.hid (P7.out.below hb)
  replace P10 := Lib.hid (P10.out.below hb)
  replace B := bstep B hb
  clear hb
  clear M1 u1 u2
  clear A0
  clear P7
  clear P10
  have HB := Lib.hid NB
  clear NB
  go_wp2_with fail
  refine (abs_any nb bh bl eb _).mono ?_
  rintro e y5 ⟨n', h', l', x', ⟨rfl, rfl, rfl, rfl⟩, rfl, hb⟩
  replace B := bstep B hb
  clear hb
  replace B := ballD1 B (.cells #[.bool false, .int .u64 (h' : Int), .int .u64 (l' : Int), .int .i64 x'] 28)
  have P12 := Lib.hid (show HoldsD (y5.alloc (.cells #[.bool false, .int .u64 (h' : Int), .int .u64 (l' : Int), .int .i64 x'] 28)) y5.heap.size false h' l' x' from by simp [HoldsD, go_sem])
  go_upto_region 9 with fail
  obtain ⟨gP12, hg⟩ : ∃ g, g = y5.heap.size := ⟨_, rfl⟩
  rw [← hg] at P12
  rw [← hg]
  generalize y5.alloc (.cells #[.bool false, .int .u64 (h' : Int), .int .u64 (l' : Int), .int .i64 x'] 28) = V5 at *
  clear hg
  obtain ⟨⟨c6_1, c6_2, c6_3, c6_4⟩, -, c6_9⟩ := P12.out
  go_wp2_with fail
  refine (rootD_any h' l' x' HB.out.1 HB.out.2.1 _ (HT.out.below B)).mono ?_
  rintro e y6 ⟨oo, PO, ns, sh, sl, sx, sk, N, rfl, hb⟩
  clear c6_1 c6_2 c6_3 c6_4 c6_9
  replace P12 := Lib.hid (P12.out.below hb)
  replace B := bstep B hb
  clear hb
  obtain ⟨r, y, rfl, num, iff⟩ := RootP_ok PO HB.out.2.1
  obtain ⟨ws, rfl, rfl, rfl, rfl⟩ := N
  have zz : decide (nv sh sl = 0) = decide (nv h' l' = 0) := decide_eq_decide.mpr iff
  have ZS := Lib.hid (zeroD_any false sh sl sx)
  have ZB := Lib.hid (zeroD_any false h' l' x')
  rw [zz] at ZS
  generalize decide (nv h' l' = 0) = zb at ZS ZB
  have SG := Lib.hid (sign_any false sh sl sx)
  obtain ⟨sg, hsg⟩ : ∃ s, s = sgn false (nv sh sl) := ⟨_, rfl⟩
  rw [← hsg] at SG
  have t0 : decide (0 ≤ sg) = true := decide_eq_true (by rw [hsg]; unfold sgn; split <;> simp)
  have MY := Lib.hid (may_any false sh sl sx ws)
  rw [mayD_of num (fun _ => rfl)] at MY
  clear PO num iff ws zz hsg HB
  replace P12 := Lib.hid (P12.out.alloc (.cells #[.bool false, .int .u64 (sh : Int), .int .u64 (sl : Int), .int .i64 sx] 28))
  replace B := ballD1 B (.cells #[.bool false, .int .u64 (sh : Int), .int .u64 (sl : Int), .int .i64 sx] 28)
  have P13 := Lib.hid (show HoldsD (y6.alloc (.cells #[.bool false, .int .u64 (sh : Int), .int .u64 (sl : Int), .int .i64 sx] 28)) y6.heap.size false sh sl sx from by simp [HoldsD, go_sem])
  go_upto_region 10 with fail
  obtain ⟨gP13, hg⟩ : ∃ g, g = y6.heap.size := ⟨_, rfl⟩
  rw [← hg] at P13
  rw [← hg]
  generalize y6.alloc (.cells #[.bool false, .int .u64 (sh : Int), .int .u64 (sl : Int), .int .i64 sx] 28) = V6 at *
  clear hg
  obtain ⟨⟨c7_1, c7_2, c7_3, c7_4⟩, -, c7_9⟩ := P12.out
  obtain ⟨⟨c8_1, c8_2, c8_3, c8_4⟩, -, c8_9⟩ := P13.out
  cases zb
  all_goals
    go_region_held3 (fun w' => w'.cell? ⟨gP12, 0, none⟩ = some (.bool false) ∧ w'.cell? ⟨gP12, 1, none⟩ = some (.int .u64 (h' : Int)) ∧ w'.cell? ⟨gP12, 2, none⟩ = some (.int .u64 (l' : Int)) ∧ w'.cell? ⟨gP12, 3, none⟩ = some (.int .i64 x') ∧ w'.cell? ⟨gP13, 0, none⟩ = some (.bool false) ∧ w'.cell? ⟨gP13, 1, none⟩ = some (.int .u64 (sh : Int)) ∧ w'.cell? ⟨gP13, 2, none⟩ = some (.int .u64 (sl : Int)) ∧ w'.cell? ⟨gP13, 3, none⟩ = some (.int .i64 sx))
      (repeat' (first | (with_reducible assumption) | (with_reducible refine keep44a ?_) | (with_reducible refine keep44d ?_) | (with_reducible exact ⟨c7_1, c7_2, c7_3, c7_4, c8_1, c8_2, c8_3, c8_4⟩) | (with_reducible refine keep44 (by with_reducible assumption) ?_) | (with_reducible refine keep44 (bundrew (by with_reducible assumption)) ?_)))
      (first
        | (go_at_call 18; (with_reducible refine (SG.out _).mono ?_); rintro e wS ⟨rfl, hbS⟩)
        | (go_at_call 27; (first | (with_reducible refine (ZS.out _).mono ?_) | (with_reducible refine (ZB.out _).mono ?_)); rintro e wZ ⟨rfl, hbZ⟩)
        | (go_at_call 28; (with_reducible refine (MY.out _ ?_).mono ?_); (exact HT.out.below (by repeat' (first | (with_reducible exact B) | (with_reducible refine Below.drew ?_) | (with_reducible refine ballD1 ?_ _) | (with_reducible refine bstep ?_ (by with_reducible assumption))))); rintro e wM ⟨rfl, hbM⟩))
    all_goals
      clear c7_1 c7_2 c7_3 c7_4 c7_9 c8_1 c8_2 c8_3 c8_4 c8_9
      go_wp2
      go_ret
      refine ⟨rfl, ?_⟩
      repeat' (first | (with_reducible exact B) | (with_reducible refine Below.drew ?_) | (with_reducible refine ballD1 ?_ _) | (with_reducible refine bstep ?_ (by with_reducible assumption)))
end Go.Proofs.YtoobmopmmoficaaDoor
