/-
  The statement QuotBack, walked: it answers true, where the document's examples do.
-/
import Derived.Test.YtoobmopmmoficaaDoorUall
import Derived.Test.YtoobmopmmoficaaDoorOf
import Derived.Deep.RegionHeld3
namespace Go.Proofs.YtoobmopmmoficaaDoor
open Go.RowKit

/-- What was multiplied is divided to what it was. -/
theorem div_back {na : Bool} {c d : Nat} {e f : Int} {o : Option (Bool × Nat × Int)} (hc : c * d < 18446744073709551616) (hd : d < 4294967296) (zd : d ≠ 0) (z : c = 0 → na = false) (e1 : -128 ≤ e) (e2 : e ≤ 127) (D : DivP na (c * d) (e + f) false d f o) : o = some (na, c, e) := by
  have dl : d < 10 ^ 34 := Nat.lt_of_lt_of_le hd (by decide)
  by_cases c0 : c = 0
  · subst c0
    rw [Nat.zero_mul] at D
    rcases D with ⟨k, _⟩ | ⟨_, _, k⟩ | ⟨_, k, _⟩
    · exact absurd k zd
    · rw [k, z rfl, show e + f - f = e by omega]
      exact fitF_self ⟨by decide, by omega, by omega⟩ (fun _ => rfl)
    · exact absurd rfl k
  · rw [DivP_mult D (Nat.lt_of_lt_of_le hc (by decide)) dl zd (Nat.mul_ne_zero c0 zd) rfl, show e + f - f = e by omega, show (na != false) = na by cases na <;> rfl]
    refine fitF_self ⟨?_, by omega, by omega⟩ (fun k => absurd k c0)
    have : c ≤ c * d := Nat.le_mul_of_pos_right c (Nat.pos_of_ne_zero zd)
    exact Nat.lt_of_lt_of_le (Nat.lt_of_le_of_lt this hc) (by decide)
theorem mul_word {na : Bool} {c d : Nat} {e f : Int} (hc : c * d < 18446744073709551616) (z : c * d = 0 → na = false) (e1 : -128 ≤ e) (e2 : e ≤ 127) (f1 : -128 ≤ f) (f2 : f ≤ 127) : mulF na c e false d f = some (na, c * d, e + f) := by
  unfold mulF
  rw [show (na != false) = na by cases na <;> rfl]
  exact fitF_self ⟨Nat.lt_of_lt_of_le hc (by decide), by omega, by omega⟩ z
theorem mul_nought {na : Bool} {c : Nat} {e f : Int} (e1 : -128 ≤ e) (f1 : -128 ≤ f) : ∃ y, mulF na c e false 0 f = some (false, 0, y) := by
  unfold mulF
  rw [Nat.mul_zero]
  exact fit_zero_some (by omega)

set_option maxRecDepth 100000 in
set_option maxHeartbeats 8000000 in
theorem quotBack_walk (AW : ∀ w : World, Tab w → Calls Tryd.prog 15 #[] w (RetB true w)) (p q e f : Int) (neg : Bool) (p1 : 0 ≤ p) (p2 : p ≤ 4294967295) (q1 : 0 ≤ q) (q2 : q ≤ 4294967295) (e1 : -128 ≤ e) (e2 : e ≤ 127) (f1 : -128 ≤ f) (f2 : f ≤ 127) (w : World) (ht : Tab w) :
    Calls Tryd.prog 4 #[.int .u32 p, .int .u32 q, .int .i8 e, .int .i8 f, .bool neg] w (RetB true w) := by
  have HT := Lib.hid ht
  have AWH := Lib.hid AW
  obtain ⟨c, rfl⟩ : ∃ c : Nat, p = (c : Int) := ⟨p.toNat, by omega⟩
  obtain ⟨d, rfl⟩ : ∃ c : Nat, q = (c : Int) := ⟨q.toNat, by omega⟩
  have hc : c < 4294967296 := by omega
  have hd : d < 4294967296 := by omega
  have cc : c * d < 18446744073709551616 := Nat.lt_of_le_of_lt (Nat.mul_le_mul (show c ≤ 4294967295 by omega) (show d ≤ 4294967295 by omega)) (by decide)
  obtain ⟨na, hna⟩ : ∃ na : Bool, na = (neg && decide (0 < c)) := ⟨_, rfl⟩
  have zc : c = 0 → na = false := by intro k; rw [hna, k]; cases neg <;> rfl
  have OF := Lib.hid (of3 d f)
  have MU := Lib.hid (mulD_any na 0 c e false 0 d f (ww1 (by omega)) (ww1 (by omega)) (by omega) (by omega) (by omega) (by omega))
  rw [nv01, nv01] at MU
  have CS := Lib.hid (And.intro hc (And.intro hd (And.intro cc (And.intro zc (And.intro e1 (And.intro e2 (And.intro f1 f2)))))))
  have u1 : IntKind.u64.wrap (c : Int) = (c : Int) := by rw [IntKind.wrap_u64]; omega
  have u2 : IntKind.u64.wrap (d : Int) = (d : Int) := by rw [IntKind.wrap_u64]; omega
  have u3 : IntKind.i64.wrap e = e := by rw [IntKind.wrap_i64]; omega
  have u4 : IntKind.i64.wrap f = f := by rw [IntKind.wrap_i64]; omega
  have sg : (neg && decide (0 < (c : Int))) = na := by rw [hna]; congr 1; simp
  clear ht AW p1 p2 q1 q2 e1 e2 f1 f2 hc hd cc zc hna
  go_enter Tryd.func4, Tryd.ntmps4
  go_wp2_with fail
  refine (AWH.out _ (HT.out.below (by go_grown))).mono ?_
  rintro e' w1 ⟨rfl, hb1⟩
  have B : Below w.heap.size w w1 := bstep (by go_grown) hb1
  clear hb1 AWH
  go_upto_region 3 with fail
  go_cut [11, 12] (fun p q W => ∃ (g k : Nat), p = .pointer (some ⟨g, 0, none⟩) ∧ q = .pointer (some ⟨k, 0, none⟩) ∧ HoldsD W g na 0 c e ∧ HoldsD W k false 0 d f ∧ Below w.heap.size w W)
  case first =>
    cases neg
    · obtain rfl : false = na := by rw [← sg]; rfl
      clear sg
      go_wp2_with fail
      refine (of_any c _).mono ?_
      rintro e' y1 ⟨rfl, o1, rfl⟩
      go_wp2_with fail
      refine (OF.out _).mono ?_
      rintro e' y2 ⟨n', h', l', x', ⟨rfl, rfl, rfl, rfl⟩, rfl, hb⟩
      replace B := bstep (ballD1 B _) hb
      clear hb
      go_wp2
      go_meet
      case rel => exact ⟨_, _, rfl, rfl, HoldsD.alloc (HoldsD.new4 rfl) _, HoldsD.new4 (by simp), ballD1 (ballD1 B _) _⟩
    · have sg' : decide (0 < (c : Int)) = na := by rw [← sg]; rfl
      have sg2 : decide (0 < c) = na := by rw [← sg']; simp
      clear sg
      go_wp2_with fail
      refine (of_any c _).mono ?_
      rintro e' y1 ⟨rfl, o1, rfl⟩
      go_wp2_with fail
      refine (OF.out _).mono ?_
      rintro e' y2 ⟨n', h', l', x', ⟨rfl, rfl, rfl, rfl⟩, rfl, hb⟩
      replace B := bstep (ballD1 B _) hb
      clear hb
      go_wp2
      go_meet
      case rel => exact ⟨_, _, rfl, rfl, HoldsD.alloc (HoldsD.new4 rfl) _, HoldsD.new4 (by simp), ballD1 (ballD1 B _) _⟩
  case rest =>
  obtain ⟨g, k, rfl, rfl, P1, P2, B2⟩ := hcut
  have PA := Lib.hid P1
  have PB := Lib.hid P2
  clear P1 P2 B OF sg u1 u2 u3 u4
  replace B := B2
  clear B2
  generalize wc = V at *
  by_cases z : d = 0
  · have tq : (((d : Int)) == 0) = true := by rw [z]; rfl
    obtain ⟨y, hy⟩ := mul_nought (na := na) (c := c) (e := e) (f := f) CS.out.2.2.2.2.1 CS.out.2.2.2.2.2.2.1
    rw [z] at MU PB
    rw [hy] at MU
    clear hy z
    obtain ⟨⟨c1_1, c1_2, c1_3, c1_4⟩, -, c1_9⟩ := PA.out
    obtain ⟨⟨c2_1, c2_2, c2_3, c2_4⟩, -, c2_9⟩ := PB.out
    go_wp2_with fail
    refine (MU.out _ (HT.out.below B)).mono ?_
    rintro e y1 ⟨n3, h3, l3, x3, k3, N, rfl, hb⟩
    clear c1_1 c1_2 c1_3 c1_4 c1_9 c2_1 c2_2 c2_3 c2_4 c2_9
    obtain ⟨rfl, rfl, rfl, rfl, rfl⟩ := numO_small (by decide) N
    replace PA := Lib.hid (PA.out.below hb)
    replace PB := Lib.hid (PB.out.below hb)
    replace B := bstep B hb
    clear hb
    clear MU N
    replace PA := Lib.hid (PA.out.alloc (.cells #[.bool false, .int .u64 0, .int .u64 0, .int .i64 x3] 28))
    replace PB := Lib.hid (PB.out.alloc (.cells #[.bool false, .int .u64 0, .int .u64 0, .int .i64 x3] 28))
    replace B := ballD1 B (.cells #[.bool false, .int .u64 0, .int .u64 0, .int .i64 x3] 28)
    have P13 := Lib.hid (show HoldsD (y1.alloc (.cells #[.bool false, .int .u64 0, .int .u64 0, .int .i64 x3] 28)) y1.heap.size false 0 0 x3 from by simp [HoldsD, go_sem])
    go_upto_region 5 with fail
    obtain ⟨gP13, hg⟩ : ∃ g, g = y1.heap.size := ⟨_, rfl⟩
    rw [← hg] at P13
    rw [← hg]
    generalize y1.alloc (.cells #[.bool false, .int .u64 0, .int .u64 0, .int .i64 x3] 28) = V1 at *
    clear hg
    go_wp2
    go_ret
    exact ⟨rfl, B⟩
  · have tq : (((d : Int)) == 0) = false := by simpa using z
    have zz : c * d = 0 → na = false := by
      intro k
      rcases Nat.mul_eq_zero.mp k with k | k
      · exact CS.out.2.2.2.1 k
      · exact absurd k z
    rw [mul_word CS.out.2.2.1 zz CS.out.2.2.2.2.1 CS.out.2.2.2.2.2.1 CS.out.2.2.2.2.2.2.1 CS.out.2.2.2.2.2.2.2] at MU
    have ZD := Lib.hid z
    clear zz z
    obtain ⟨⟨c1_1, c1_2, c1_3, c1_4⟩, -, c1_9⟩ := PA.out
    obtain ⟨⟨c2_1, c2_2, c2_3, c2_4⟩, -, c2_9⟩ := PB.out
    go_wp2_with fail
    refine (MU.out _ (HT.out.below B)).mono ?_
    rintro e y1 ⟨n3, h3, l3, x3, k3, N, rfl, hb⟩
    clear c1_1 c1_2 c1_3 c1_4 c1_9 c2_1 c2_2 c2_3 c2_4 c2_9
    obtain ⟨rfl, rfl, rfl, m1, m2⟩ := numO_small CS.out.2.2.1 N
    have HM := Lib.hid (And.intro m1 m2)
    clear m1 m2
    replace PA := Lib.hid (PA.out.below hb)
    replace PB := Lib.hid (PB.out.below hb)
    replace B := bstep B hb
    clear hb
    clear MU N
    replace PA := Lib.hid (PA.out.alloc (.cells #[.bool n3, .int .u64 0, .int .u64 (l3 : Int), .int .i64 x3] 28))
    replace PB := Lib.hid (PB.out.alloc (.cells #[.bool n3, .int .u64 0, .int .u64 (l3 : Int), .int .i64 x3] 28))
    replace B := ballD1 B (.cells #[.bool n3, .int .u64 0, .int .u64 (l3 : Int), .int .i64 x3] 28)
    have P13 := Lib.hid (show HoldsD (y1.alloc (.cells #[.bool n3, .int .u64 0, .int .u64 (l3 : Int), .int .i64 x3] 28)) y1.heap.size n3 0 l3 x3 from by simp [HoldsD, go_sem])
    go_upto_region 5 with fail
    obtain ⟨gP13, hg⟩ : ∃ g, g = y1.heap.size := ⟨_, rfl⟩
    rw [← hg] at P13
    rw [← hg]
    generalize y1.alloc (.cells #[.bool n3, .int .u64 0, .int .u64 (l3 : Int), .int .i64 x3] 28) = V1 at *
    clear hg
    have DV := Lib.hid (show ∀ w : World, Tab w → Calls Tryd.prog 25 #[Dv n3 0 l3 x3, Dv false 0 d f] w (RetDO (some (n3, c, e)) w) from fun w ht => by
      obtain ⟨b1, b2, b3, b4, b5, b6, b7, b8⟩ := CS.out
      obtain ⟨m1, m2⟩ := HM.out
      have k := divD_any n3 0 l3 x3 false 0 d f (ww1 (by rw [m1]; exact b3)) (ww1 (by omega)) (by rw [nv01, m1, m2]; exact ⟨Nat.lt_of_lt_of_le b3 (by decide), by omega, by omega⟩) (by rw [nv01]; exact ⟨Nat.lt_of_lt_of_le b2 (by decide), by omega, by omega⟩) w ht
      rw [nv01, nv01, m1, m2] at k
      rw [m1, m2]
      exact k.mono fun e w' H => RetDP.det (fun o D => div_back b3 b2 ZD.out b4 b5 b6 D) H)
    obtain ⟨⟨c3_1, c3_2, c3_3, c3_4⟩, -, c3_9⟩ := P13.out
    obtain ⟨⟨c4_1, c4_2, c4_3, c4_4⟩, -, c4_9⟩ := PB.out
    go_wp2_with fail
    refine (DV.out _ (HT.out.below B)).mono ?_
    rintro e y2 ⟨n5, h5, l5, x5, k5, N, rfl, hb⟩
    clear c3_1 c3_2 c3_3 c3_4 c3_9 c4_1 c4_2 c4_3 c4_4 c4_9
    obtain ⟨rfl, rfl, rfl, rfl, rfl⟩ := numO_small (by have := CS.out.1; omega) N
    replace PA := Lib.hid (PA.out.below hb)
    replace PB := Lib.hid (PB.out.below hb)
    replace P13 := Lib.hid (P13.out.below hb)
    replace B := bstep B hb
    clear hb
    clear DV N
    replace PA := Lib.hid (PA.out.alloc (.cells #[.bool n5, .int .u64 0, .int .u64 (l5 : Int), .int .i64 x5] 28))
    replace PB := Lib.hid (PB.out.alloc (.cells #[.bool n5, .int .u64 0, .int .u64 (l5 : Int), .int .i64 x5] 28))
    replace P13 := Lib.hid (P13.out.alloc (.cells #[.bool n5, .int .u64 0, .int .u64 (l5 : Int), .int .i64 x5] 28))
    replace B := ballD1 B (.cells #[.bool n5, .int .u64 0, .int .u64 (l5 : Int), .int .i64 x5] 28)
    have P15 := Lib.hid (show HoldsD (y2.alloc (.cells #[.bool n5, .int .u64 0, .int .u64 (l5 : Int), .int .i64 x5] 28)) y2.heap.size n5 0 l5 x5 from by simp [HoldsD, go_sem])
    go_upto_region 8 with fail
    obtain ⟨gP15, hg⟩ : ∃ g, g = y2.heap.size := ⟨_, rfl⟩
    rw [← hg] at P15
    rw [← hg]
    generalize y2.alloc (.cells #[.bool n5, .int .u64 0, .int .u64 (l5 : Int), .int .i64 x5] 28) = V2 at *
    clear hg
    obtain ⟨⟨c5_1, c5_2, c5_3, c5_4⟩, -, c5_9⟩ := P15.out
    obtain ⟨⟨c6_1, c6_2, c6_3, c6_4⟩, -, c6_9⟩ := PA.out
    go_wp2
    go_ret
    exact ⟨rfl, B⟩
end Go.Proofs.YtoobmopmmoficaaDoor
