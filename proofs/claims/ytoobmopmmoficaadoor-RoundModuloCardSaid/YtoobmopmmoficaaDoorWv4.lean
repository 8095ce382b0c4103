/-
  The statement RoundModulo, walked: it answers true, where the document's examples do.
-/
import Derived.Test.YtoobmopmmoficaaDoorPo
import Derived.Deep.RegionHeld3
namespace Go.Proofs.YtoobmopmmoficaaDoor
open Go.RowKit

/-- A whole number of an int. -/
theorem int_any (n : Int) (h1 : -9223372036854775808 ≤ n) (h2 : n ≤ 9223372036854775807) (w : World) : Calls Tryd.prog 29 #[.int .i64 n] w fun e w' => e = .returned (Dv (decide (n < 0)) 0 n.natAbs 0) ∧ Below w.heap.size w w' := by
  by_cases z : n < 0
  · have k := int_neg n.natAbs (by omega) (by omega) w
    rw [show -((n.natAbs : Nat) : Int) = n by omega] at k
    refine k.mono ?_
    rintro e w' ⟨a, b, c, d, ⟨rfl, rfl, rfl, rfl⟩, rfl, hb⟩
    exact ⟨by rw [decide_eq_true z], hb⟩
  · have k := int_yes n.natAbs (by omega) w
    rw [show ((n.natAbs : Nat) : Int) = n by omega] at k
    refine k.mono ?_
    rintro e w' ⟨a, b, c, d, ⟨rfl, rfl, rfl, rfl⟩, rfl, hb⟩
    exact ⟨by rw [decide_eq_false z], hb⟩
theorem numO_num {o : Option (Bool × Nat × Int)} {n : Bool} {h l : Nat} {x : Int} {ok : Bool} (N : NumO o n h l x ok) (H : ∀ s c y, o = some (s, c, y) → NumD c y ∧ (c = 0 → s = false)) : WW h l ∧ NumD (nv h l) x ∧ (nv h l = 0 → n = false) := by
  rcases o with _ | ⟨s, c, y⟩
  · obtain ⟨w, -, rfl, rfl, rfl, rfl⟩ := N
    exact ⟨w, ⟨by decide, by decide, by decide⟩, fun _ => rfl⟩
  · obtain ⟨w, -, rfl, rfl, rfl⟩ := N
    exact ⟨w, H _ _ _ rfl⟩
theorem mod_none {na : Bool} {ca : Nat} {ea : Int} {nb : Bool} {eb : Int} {o : Option (Bool × Nat × Int)} (M : ModP na ca ea nb 0 eb o) : o = none := by
  obtain ⟨q, D, e⟩ := M
  rcases D with ⟨_, k⟩ | ⟨k, _⟩ | ⟨k, _⟩
  · rw [e, k, modQ_none, modM_none]
  · exact absurd rfl k
  · exact absurd rfl k

set_option linter.unusedSimpArgs false in
set_option maxRecDepth 100000 in
set_option maxHeartbeats 8000000 in
theorem roundModulo_walk (AW : ∀ w : World, Tab w → Calls Tryd.prog 31 #[] w (RetB true w)) (p q : Int) (xn : Bool) (xh xl : Nat) (xx : Int) (p1 : -2147483648 ≤ p) (p2 : p ≤ 2147483647) (q1 : -2147483648 ≤ q) (q2 : q ≤ 2147483647) (h0 : WW xh xl) (x1 : -9223372036854775808 ≤ xx) (x2 : xx ≤ 9223372036854775807) (w : World) (ht : Tab w) :
    Calls Tryd.prog 9 #[.int .i32 p, .int .i32 q, Dv xn xh xl xx] w (RetB true w) := by
  have HT := Lib.hid ht
  have AWH := Lib.hid AW
  have M1 := Lib.hid (make_any xn xh xl xx h0 x1 x2)
  obtain ⟨n, hn⟩ : ∃ n, p.tmod 100000000 = n := ⟨_, rfl⟩
  obtain ⟨m, hm⟩ : ∃ n, q.tmod 100000000 = n := ⟨_, rfl⟩
  have n8 : n.natAbs < 10 ^ 8 := by
    have a := Int.lt_tmod_of_pos p (show (0 : Int) < 100000000 by decide)
    have b := Int.tmod_lt_of_pos p (show (0 : Int) < 100000000 by decide)
    omega
  have m8 : m.natAbs < 10 ^ 8 := by
    have a := Int.lt_tmod_of_pos q (show (0 : Int) < 100000000 by decide)
    have b := Int.tmod_lt_of_pos q (show (0 : Int) < 100000000 by decide)
    omega
  have IA := Lib.hid (int_any n (by omega) (by omega))
  have IB := Lib.hid (int_any m (by omega) (by omega))
  have u1 : IntKind.i64.wrap p = p := by rw [IntKind.wrap_i64]; omega
  have u2 : IntKind.i64.wrap q = q := by rw [IntKind.wrap_i64]; omega
  have u3 : wrap64 p = p := by unfold wrap64; omega
  have u4 : wrap64 q = q := by unfold wrap64; omega
  have u5 : IntKind.i64.wrap n = n := by rw [IntKind.wrap_i64]; omega
  have u6 : IntKind.i64.wrap m = m := by rw [IntKind.wrap_i64]; omega
  have u7 : wrap64 n = n := by unfold wrap64; omega
  have u8 : wrap64 m = m := by unfold wrap64; omega
  obtain ⟨sa, hsa⟩ : ∃ s, s = decide (n < 0) := ⟨_, rfl⟩
  obtain ⟨sb, hsb⟩ : ∃ s, s = decide (m < 0) := ⟨_, rfl⟩
  obtain ⟨ca, hca⟩ : ∃ s, s = n.natAbs := ⟨_, rfl⟩
  obtain ⟨cb, hcb⟩ : ∃ s, s = m.natAbs := ⟨_, rfl⟩
  rw [← hsa, ← hca] at IA
  rw [← hsb, ← hcb] at IB
  have MO := Lib.hid (modulo_any sa 0 ca 0 sb 0 cb 0 (ww1 (by omega)) (ww1 (by omega)) (by rw [nv01]; exact ⟨Nat.lt_of_lt_of_le (show ca < 10 ^ 8 by omega) (by decide), by decide, by decide⟩) (by rw [nv01]; exact ⟨Nat.lt_of_lt_of_le (show cb < 10 ^ 8 by omega) (by decide), by decide, by decide⟩))
  rw [nv01, nv01] at MO
  have HH := Lib.hid (And.intro n8 (And.intro m8 (And.intro hsa (And.intro hsb (And.intro hca hcb)))))
  clear ht AW h0 x1 x2 p1 p2 q1 q2 n8 m8 hsa hsb hca hcb
  go_enter Tryd.func9, Tryd.ntmps9
  go_wp2_with fail
  refine (AWH.out _ (HT.out.below (by go_grown))).mono ?_
  rintro e' w1 ⟨rfl, hb1⟩
  have A0 := Lib.hid (HoldsD.below (by simp [HoldsD, go_sem]) hb1 : HoldsD w1 w.heap.size xn xh xl xx)
  have B : Below w.heap.size w w1 := bstep (by go_grown) hb1
  clear hb1 AWH
  go_wp2_with fail
  refine (IA.out _).mono ?_
  rintro e y1 ⟨rfl, hb⟩
  replace A0 := Lib.hid (A0.out.below hb)
  replace B := bstep B hb
  clear hb
  clear IA
  go_wp2_with fail
  refine (IB.out _).mono ?_
  rintro e y2 ⟨rfl, hb⟩
  replace A0 := Lib.hid (A0.out.below hb)
  replace B := bstep B hb
  clear hb
  clear IB
  replace A0 := Lib.hid ((A0.out.alloc (.cells #[.bool sa, .int .u64 0, .int .u64 (ca : Int), .int .i64 0] 28)).alloc (.cells #[.bool sb, .int .u64 0, .int .u64 (cb : Int), .int .i64 0] 28))
  have P9 := Lib.hid (HoldsD.alloc (HoldsD.new4 rfl) _ : HoldsD ((y2.alloc (.cells #[.bool sa, .int .u64 0, .int .u64 (ca : Int), .int .i64 0] 28)).alloc (.cells #[.bool sb, .int .u64 0, .int .u64 (cb : Int), .int .i64 0] 28)) y2.heap.size sa 0 ca 0)
  have P10 := Lib.hid (HoldsD.new4 (by simp) : HoldsD ((y2.alloc (.cells #[.bool sa, .int .u64 0, .int .u64 (ca : Int), .int .i64 0] 28)).alloc (.cells #[.bool sb, .int .u64 0, .int .u64 (cb : Int), .int .i64 0] 28)) (y2.heap.size + 1) sb 0 cb 0)
  replace B := ballD1 (ballD1 B (.cells #[.bool sa, .int .u64 0, .int .u64 (ca : Int), .int .i64 0] 28)) (.cells #[.bool sb, .int .u64 0, .int .u64 (cb : Int), .int .i64 0] 28)
  go_upto_region 5 with fail
  obtain ⟨g, hg⟩ : ∃ g, g = y2.heap.size := ⟨_, rfl⟩
  rw [← hg] at P9 P10
  rw [← hg]
  generalize (y2.alloc (.cells #[.bool sa, .int .u64 0, .int .u64 (ca : Int), .int .i64 0] 28)).alloc (.cells #[.bool sb, .int .u64 0, .int .u64 (cb : Int), .int .i64 0] 28) = V at *
  clear hg
  obtain ⟨⟨c1_1, c1_2, c1_3, c1_4⟩, -, c1_9⟩ := P9.out
  obtain ⟨⟨c2_1, c2_2, c2_3, c2_4⟩, -, c2_9⟩ := P10.out
  go_wp2_with fail
  refine (MO.out _ (HT.out.below B)).mono ?_
  rintro e y3 ⟨oo, MP, n11, h11, l11, x11, k11, N11, rfl, hb⟩
  clear c1_1 c1_2 c1_3 c1_4 c1_9 c2_1 c2_2 c2_3 c2_4 c2_9
  replace A0 := Lib.hid (A0.out.below hb)
  replace P9 := Lib.hid (P9.out.below hb)
  replace P10 := Lib.hid (P10.out.below hb)
  replace B := bstep B hb
  clear hb
  clear MO
  replace A0 := Lib.hid (A0.out.alloc (.cells #[.bool n11, .int .u64 (h11 : Int), .int .u64 (l11 : Int), .int .i64 x11] 28))
  replace P9 := Lib.hid (P9.out.alloc (.cells #[.bool n11, .int .u64 (h11 : Int), .int .u64 (l11 : Int), .int .i64 x11] 28))
  replace P10 := Lib.hid (P10.out.alloc (.cells #[.bool n11, .int .u64 (h11 : Int), .int .u64 (l11 : Int), .int .i64 x11] 28))
  replace B := ballD1 B (.cells #[.bool n11, .int .u64 (h11 : Int), .int .u64 (l11 : Int), .int .i64 x11] 28)
  have P11 := Lib.hid (show HoldsD (y3.alloc (.cells #[.bool n11, .int .u64 (h11 : Int), .int .u64 (l11 : Int), .int .i64 x11] 28)) y3.heap.size n11 h11 l11 x11 from by simp [HoldsD, go_sem])
  go_upto_region 6 with fail
  obtain ⟨gP11, hg⟩ : ∃ g, g = y3.heap.size := ⟨_, rfl⟩
  rw [← hg] at P11
  rw [← hg]
  generalize y3.alloc (.cells #[.bool n11, .int .u64 (h11 : Int), .int .u64 (l11 : Int), .int .i64 x11] 28) = V3 at *
  clear hg
  by_cases z : m = 0
  · have zz : (m == 0) = true := by rw [z]; rfl
    obtain rfl : oo = none := mod_none (by have k := HH.out.2.2.2.2.2; rw [z] at k; rw [show cb = 0 from k] at MP; exact MP)
    obtain ⟨-, rfl, rfl, rfl, rfl, rfl⟩ := N11
    clear MP z HH
    obtain ⟨⟨c3_1, c3_2, c3_3, c3_4⟩, -, c3_9⟩ := P11.out
    go_wp2
    go_ret
    exact ⟨rfl, B⟩
  have zz : (m == 0) = false := by simpa using z
  obtain ⟨wz, hwz⟩ : ∃ z, z = wantZ n m := ⟨_, rfl⟩
  have hoo : oo = some (intD wz) := by
    rw [hwz]
    refine mod_int HH.out.1 HH.out.2.1 z ?_
    have a := HH.out.2.2
    rw [← a.1, ← a.2.1, ← a.2.2.1, ← a.2.2.2]
    exact MP
  have bw : wz.natAbs < 10 ^ 9 := by
    rw [hwz]
    unfold wantZ
    have a := HH.out.1
    have b := HH.out.2.1
    have c : (n.tmod m).natAbs ≤ n.natAbs := by rw [Int.natAbs_tmod]; exact Nat.mod_le _ _
    split <;> omega
  rw [hoo] at N11
  obtain ⟨rfl, e1, rfl, e2, e3⟩ := numO_small (Nat.lt_of_lt_of_le bw (by decide)) N11
  have IW := Lib.hid (int_any wz (by omega) (by omega))
  rw [← e1, ← e2] at IW
  rw [show (0 : Int) = x11 from e3.symm] at IW
  clear MP N11 hoo
  obtain ⟨tm, htm⟩ : ∃ t, n.tmod m = t := ⟨_, rfl⟩
  have TZ := Lib.hid (show wz = if tm ≠ 0 ∧ decide (tm < 0) ≠ decide (m < 0) then tm + m else tm from by rw [hwz, ← htm]; rfl)
  have tb : tm.natAbs < 10 ^ 8 := by rw [← htm, Int.natAbs_tmod]; exact Nat.lt_of_le_of_lt (Nat.mod_le _ _) HH.out.1
  have u9 : IntKind.i64.wrap tm = tm := by rw [IntKind.wrap_i64]; omega
  have v1 : wrap64 tm = tm := by unfold wrap64; omega
  have v2 : wrap64 (tm + m) = tm + m := by unfold wrap64; have := HH.out.2.1; omega
  have v3 : IntKind.i64.wrap (tm + m) = tm + m := by rw [IntKind.wrap_i64]; have := HH.out.2.1; omega
  have mz : m ≠ 0 := z
  have HB8 := Lib.hid (And.intro e2 (And.intro bw e3))
  clear z hwz tb e1 e2 bw
  go_upto_region 9 with fail
  obtain ⟨cnd, hcnd⟩ : ∃ c : Bool, c = decide (tm ≠ 0 ∧ decide (tm < 0) ≠ decide (m < 0)) := ⟨_, rfl⟩
  go_cut [61] (fun t W => t = .bool cnd ∧ W = V3)
  case first =>
    by_cases t0 : tm = 0
    · have k1 : (tm != 0) = false := by rw [t0]; rfl
      have k2 : (tm == 0) = true := by rw [t0]; rfl
      have wt : cnd = false := by rw [hcnd]; exact decide_eq_false (fun k => k.1 t0)
      clear t0 hcnd
      go_wp2
      go_meet
      case rel => exact ⟨by rw [wt], rfl⟩
    · have k1 : (tm != 0) = true := by simpa using t0
      have k2 : (tm == 0) = false := by simpa using t0
      have TT := Lib.hid (And.intro t0 hcnd)
      clear t0 hcnd
      generalize ha : decide (tm < 0) = da at *
      generalize hb : decide (m < 0) = db at *
      cases da <;> cases db
      · have wt : cnd = false := by rw [TT.out.2]; exact decide_eq_false (fun k => k.2 rfl)
        go_wp2
        go_meet
        case rel => exact ⟨by rw [wt], rfl⟩
      · have wt : cnd = true := by rw [TT.out.2]; exact decide_eq_true ⟨TT.out.1, by decide⟩
        go_wp2
        go_meet
        case rel => exact ⟨by rw [wt], rfl⟩
      · have wt : cnd = true := by rw [TT.out.2]; exact decide_eq_true ⟨TT.out.1, by decide⟩
        go_wp2
        go_meet
        case rel => exact ⟨by rw [wt], rfl⟩
      · have wt : cnd = false := by rw [TT.out.2]; exact decide_eq_false (fun k => k.2 rfl)
        go_wp2
        go_meet
        case rel => exact ⟨by rw [wt], rfl⟩
  case rest =>
  obtain ⟨rfl, rfl⟩ := hcut
  go_upto_if 61 with fail
  go_cut [13] (fun t W => t = .int .i64 wz ∧ W = wc)
  case first =>
    cases cnd
    · have wt : wz = tm := by rw [TZ.out, if_neg (of_decide_eq_false hcnd.symm)]
      clear hcnd
      go_wp2
      go_meet
      case rel => exact ⟨by rw [wt], rfl⟩
    · have wt : wz = tm + m := by rw [TZ.out, if_pos (of_decide_eq_true hcnd.symm)]
      clear hcnd
      go_wp2
      go_meet
      case rel => exact ⟨by rw [wt], rfl⟩
  case rest =>
  obtain ⟨rfl, rfl⟩ := hcut
  clear hcnd
  clear TZ u1 u2 u3 u4 u5 u6 u7 u8 u9 v1 v2 v3 zz mz hn hm htm
  have WL : WW 0 l11 := ww1 (by have := HB8.out; omega)
  have NL : NumD (nv 0 l11) x11 := by rw [nv01, e3]; exact ⟨Nat.lt_of_lt_of_le (show l11 < 10 ^ 9 by have := HB8.out; omega) (by decide), by decide, by decide⟩
  have CM := Lib.hid (cmp_dec n11 0 l11 x11 n11 0 l11 x11 WL WL NL.2.1 NL.2.2 NL.2.1 NL.2.2)
  rw [cmpD_val NL NL, cmpZ_eq.2 rfl] at CM
  replace CM := Lib.hid (show ∀ w : World, Tab w → Calls Tryd.prog 35 #[.agg #[.bool n11, .int .u64 0, .int .u64 (l11 : Int), .int .i64 x11], .agg #[.bool n11, .int .u64 0, .int .u64 (l11 : Int), .int .i64 x11]] w (RetI 0 w) from CM.out)
  replace IW := Lib.hid (show ∀ w : World, Calls Tryd.prog 29 #[.int .i64 wz] w (fun e w' => e = .returned (.agg #[.bool n11, .int .u64 0, .int .u64 (l11 : Int), .int .i64 x11]) ∧ Below w.heap.size w w') from IW.out)
  clear WL NL HB8 e3
  go_upto_region 11 with fail
  obtain ⟨⟨c3_1, c3_2, c3_3, c3_4⟩, -, c3_9⟩ := P11.out
  go_cut [73] (fun t W => t = .bool false ∧ Below wc.heap.size wc W)
  case first =>
    go_region_held3 (fun w' => w'.cell? ⟨gP11, 0, none⟩ = some (.bool n11) ∧ w'.cell? ⟨gP11, 1, none⟩ = some (.int .u64 0) ∧ w'.cell? ⟨gP11, 2, none⟩ = some (.int .u64 (l11 : Int)) ∧ w'.cell? ⟨gP11, 3, none⟩ = some (.int .i64 x11))
      (repeat' (first | (with_reducible assumption) | (with_reducible refine keep4d ?_) | exact ⟨c3_1, c3_2, c3_3, c3_4⟩ | (with_reducible refine keep4 (by with_reducible assumption) ?_)))
      (first
        | (go_at_call 29; (with_reducible refine (IW.out _).mono ?_); rintro e wN ⟨rfl, hbN⟩)
        | (go_at_call 35; (with_reducible refine (CM.out _ ?_).mono ?_); (exact HT.out.below (by repeat' (first | (with_reducible exact B) | (with_reducible refine Below.drew ?_) | (with_reducible refine ballD1 ?_ _) | (with_reducible refine bstep ?_ (by with_reducible assumption))))); rintro e wC ⟨rfl, hbC⟩))
    all_goals
      clear c3_1 c3_2 c3_3 c3_4 c3_9
      go_wp2
      go_meet
      case rel =>
        refine ⟨rfl, ?_⟩
        repeat' (first | (with_reducible exact Below.refl _ _) | (with_reducible refine Below.drew ?_) | (with_reducible refine bstep ?_ (by with_reducible assumption)))
  case rest =>
  clear c3_1 c3_2 c3_3 c3_4 c3_9
  obtain ⟨rfl, hb⟩ := hcut
  rename World => W4
  clear P9 P11 CM IW
  replace A0 := Lib.hid (A0.out.below hb)
  replace P10 := Lib.hid (P10.out.below hb)
  replace B := bstep B hb
  clear hb
  go_upto_region 13 with fail
  obtain ⟨⟨c4_1, c4_2, c4_3, c4_4⟩, -, c4_9⟩ := A0.out
  go_wp2_with fail
  refine (M1.out _ (HT.out.below B)).mono ?_
  rintro e y21 ⟨na, ah, al, ea, NA, rfl, hb⟩
  clear c4_1 c4_2 c4_3 c4_4 c4_9
  replace A0 := Lib.hid (A0.out.below hb)
  replace P10 := Lib.hid (P10.out.below hb)
  replace B := bstep B hb
  clear hb
  clear M1
  clear A0
  replace P10 := Lib.hid (P10.out.alloc (.cells #[.bool na, .int .u64 (ah : Int), .int .u64 (al : Int), .int .i64 ea] 28))
  replace B := ballD1 B (.cells #[.bool na, .int .u64 (ah : Int), .int .u64 (al : Int), .int .i64 ea] 28)
  have P14 := Lib.hid (show HoldsD (y21.alloc (.cells #[.bool na, .int .u64 (ah : Int), .int .u64 (al : Int), .int .i64 ea] 28)) y21.heap.size na ah al ea from by simp [HoldsD, go_sem])
  go_upto_region 14 with fail
  obtain ⟨gP14, hg⟩ : ∃ g, g = y21.heap.size := ⟨_, rfl⟩
  rw [← hg] at P14
  rw [← hg]
  generalize y21.alloc (.cells #[.bool na, .int .u64 (ah : Int), .int .u64 (al : Int), .int .i64 ea] 28) = V21 at *
  clear hg
  have HN := Lib.hid NA
  have NB : WW 0 cb ∧ NumD (nv 0 cb) 0 := by
    have a := HH.out.2.1
    have b := HH.out.2.2.2.2.2
    exact ⟨ww1 (by omega), by rw [nv01]; exact ⟨Nat.lt_of_lt_of_le (show cb < 10 ^ 8 by omega) (by decide), by decide, by decide⟩⟩
  have HNB := Lib.hid NB
  have DV := Lib.hid (divD_any na ah al ea sb 0 cb 0 NA.1 NB.1 NA.2.1 NB.2)
  have MO := Lib.hid (modulo_any na ah al ea sb 0 cb 0 NA.1 NB.1 NA.2.1 NB.2)
  clear NA NB HH
  obtain ⟨⟨c5_1, c5_2, c5_3, c5_4⟩, -, c5_9⟩ := P14.out
  obtain ⟨⟨c6_1, c6_2, c6_3, c6_4⟩, -, c6_9⟩ := P10.out
  go_wp2_with fail
  refine (DV.out _ (HT.out.below B)).mono ?_
  rintro e y22 ⟨oq, DQ, n15, h15, l15, x15, k15, N15, rfl, hb⟩
  clear c5_1 c5_2 c5_3 c5_4 c5_9 c6_1 c6_2 c6_3 c6_4 c6_9
  replace P10 := Lib.hid (P10.out.below hb)
  replace P14 := Lib.hid (P14.out.below hb)
  replace B := bstep B hb
  clear hb
  clear DV
  have lt_P10_P15 : g + 1 < y22.heap.size := P10.out.2.2
  replace P10 := Lib.hid (P10.out.alloc (.cells #[.bool n15, .int .u64 (h15 : Int), .int .u64 (l15 : Int), .int .i64 x15] 28))
  replace P14 := Lib.hid (P14.out.alloc (.cells #[.bool n15, .int .u64 (h15 : Int), .int .u64 (l15 : Int), .int .i64 x15] 28))
  replace B := ballD1 B (.cells #[.bool n15, .int .u64 (h15 : Int), .int .u64 (l15 : Int), .int .i64 x15] 28)
  have P15 := Lib.hid (show HoldsD (y22.alloc (.cells #[.bool n15, .int .u64 (h15 : Int), .int .u64 (l15 : Int), .int .i64 x15] 28)) y22.heap.size n15 h15 l15 x15 from by simp [HoldsD, go_sem])
  go_upto_region 15 with fail
  obtain ⟨gP15, hg⟩ : ∃ g, g = y22.heap.size := ⟨_, rfl⟩
  rw [← hg] at P15 lt_P10_P15
  rw [← hg]
  generalize y22.alloc (.cells #[.bool n15, .int .u64 (h15 : Int), .int .u64 (l15 : Int), .int .i64 x15] 28) = V22 at *
  clear hg
  obtain ⟨W15, D15, z15⟩ := numO_num N15 (fun s c y e => by subst e; exact DivP_num DQ HN.out.2.1.1)
  have HQ := Lib.hid (And.intro DQ N15)
  have FL := Lib.hid (floor_r n15 h15 l15 x15 W15 D15)
  obtain ⟨⟨fs, fc, fx⟩, hf⟩ : ∃ t, rwF 6 n15 (nv h15 l15) x15 = t := ⟨_, rfl⟩
  rw [hf] at FL
  have HF := Lib.hid (And.intro hf (rwF_num D15 z15 hf))
  clear DQ N15 W15 D15 z15 hf
  have z0 : gP15 < V22.heap.size + 1 := by have := P15.out.2.2; omega
  obtain ⟨⟨c7_1, c7_2, c7_3, c7_4⟩, -, c7_9⟩ := P15.out
  obtain ⟨⟨c8_1, c8_2, c8_3, c8_4⟩, -, c8_9⟩ := P10.out
  go_cut [17, 18] (fun p q W => ∃ (k : Nat) (n : Bool) (h l : Nat) (x : Int) (ok : Bool), p = .pointer (some ⟨k, 0, none⟩) ∧ q = .bool ok ∧ NumO (mulF sb (nv 0 cb) 0 fs fc fx) n h l x ok ∧ HoldsD W k n h l x ∧ Below V22.heap.size V22 W)
  case first =>
    go_region_held3 (fun w' => w'.cell? ⟨gP15, 0, none⟩ = some (.bool n15) ∧ w'.cell? ⟨gP15, 1, none⟩ = some (.int .u64 (h15 : Int)) ∧ w'.cell? ⟨gP15, 2, none⟩ = some (.int .u64 (l15 : Int)) ∧ w'.cell? ⟨gP15, 3, none⟩ = some (.int .i64 x15) ∧ w'.cell? ⟨g + 1, 0, none⟩ = some (.bool sb) ∧ w'.cell? ⟨g + 1, 1, none⟩ = some (.int .u64 0) ∧ w'.cell? ⟨g + 1, 2, none⟩ = some (.int .u64 (cb : Int)) ∧ w'.cell? ⟨g + 1, 3, none⟩ = some (.int .i64 0))
      (repeat' (first | (with_reducible assumption) | (with_reducible refine keep44a ?_) | (with_reducible refine keep44d ?_) | (with_reducible refine keep44s ?_ ?_ ?_) | exact ⟨c7_1, c7_2, c7_3, c7_4, c8_1, c8_2, c8_3, c8_4⟩ | (with_reducible refine keep44 (by with_reducible assumption) ?_) | (show _ ≠ _; (try dsimp only); omega)))
      (first
        | (go_at_call 32; (with_reducible refine (FL.out _ ?_).mono ?_); (exact HT.out.below (by repeat' (first | (with_reducible exact B) | (with_reducible refine Below.drew ?_) | (with_reducible refine ballD1 ?_ _) | (with_reducible refine bstep ?_ (by with_reducible assumption))))); rintro e wN ⟨nN, hN, lN, xN, WN, eqN, rfl, hbN⟩; obtain ⟨rfl, rfl, rfl⟩ := (show nN = fs ∧ nv hN lN = fc ∧ xN = fx from by simpa using eqN); obtain ⟨hcN, hfN⟩ := bcell hbN; have szN := hbN.size; (try simp only [World.size_alloc, World.size_drew] at szN); (try (have : V22.heap.size < wN.heap.size := (by omega))); (try (have : V22.heap.size + 1 < wN.heap.size := (by omega))))
        | (go_at_call 24; (refine (mulD_any sb 0 cb 0 nN hN lN xN HNB.out.1 WN (by decide) (by decide) HF.out.2.1.2.1 HF.out.2.1.2.2 _ ?_).mono ?_); (exact HT.out.below (by repeat' (first | (with_reducible exact B) | (with_reducible refine Below.drew ?_) | (with_reducible refine ballD1 ?_ _) | (with_reducible refine bstep ?_ (by with_reducible assumption))))); rintro e wA ⟨nA, hA, lA, xA, kA, NA, rfl, hbA⟩; obtain ⟨hcA, hfA⟩ := bcell hbA; have szA := hbA.size; (try simp only [World.size_alloc, World.size_drew] at szA); (try (have : V22.heap.size < wA.heap.size := (by omega))); (try (have : V22.heap.size + 1 < wA.heap.size := (by omega)))))
    all_goals
      go_wp2
      go_meet
      case rel =>
        refine ⟨_, nA, hA, lA, xA, kA, rfl, rfl, NA, ?_, ?_⟩
        · clear c7_1 c7_2 c7_3 c7_4 c8_1 c8_2 c8_3 c8_4 hcN hfN hcA hfA
          repeat' (first | (with_reducible refine HoldsD.put4 (a := false) (b := 0) (c := 0) (d := 0) ?_) | (with_reducible refine HoldsD.far ?_ ?_ _) | ((with_reducible refine HoldsD.new4 ?_); (first | rfl | (simp; done))) | ((with_reducible refine HoldsD.zero4 ?_); (first | rfl | (simp; done))) | (with_reducible refine HoldsD.alloc ?_ _) | (with_reducible refine HoldsD.drew2 ?_) | (with_reducible refine HoldsD.below ?_ (by with_reducible assumption)) | (show _ ≠ _; (try dsimp only); omega))
        · clear c7_1 c7_2 c7_3 c7_4 c8_1 c8_2 c8_3 c8_4 hcN hfN hcA hfA
          repeat' (first | (with_reducible exact Below.refl _ _) | (with_reducible refine Below.drew ?_) | (with_reducible refine ballD1 ?_ _) | (with_reducible refine Below.set1' ?_ _ _ ?_ _) | (with_reducible refine bstep ?_ (by with_reducible assumption)) | omega)
  case rest =>
  obtain ⟨k17, np, hp, lp, xp, kp, rfl, rfl, NP, P17, hb⟩ := hcut
  replace P17 := Lib.hid P17
  clear P15 FL z0
  rename World => W5
  clear c7_1 c7_2 c7_3 c7_4 c7_9 c8_1 c8_2 c8_3 c8_4 c8_9
  replace P10 := Lib.hid (P10.out.below hb)
  replace P14 := Lib.hid (P14.out.below hb)
  replace B := bstep B hb
  clear hb
  obtain ⟨op, hop⟩ : ∃ o, mulF sb (nv 0 cb) 0 fs fc fx = o := ⟨_, rfl⟩
  rw [hop] at NP
  obtain ⟨WP, DP, zP⟩ := numO_num NP (fun s c y e => by
    subst e
    have k := fitF_may hop (Nat.lt_of_lt_of_le (Nat.mul_lt_mul'' HNB.out.2.1 HF.out.2.1.1) (by unfold B128; decide))
    exact ⟨k.2.1, k.2.2⟩)
  have SB := Lib.hid (subD_any na ah al ea np hp lp xp HN.out.1 WP HN.out.2.1 DP)
  have HP := Lib.hid (And.intro hop NP)
  clear hop NP WP DP zP
  go_upto_region 16 with fail
  obtain ⟨⟨c9_1, c9_2, c9_3, c9_4⟩, -, c9_9⟩ := P14.out
  obtain ⟨⟨c10_1, c10_2, c10_3, c10_4⟩, -, c10_9⟩ := P17.out
  go_wp2_with fail
  refine (SB.out _ (HT.out.below B)).mono ?_
  rintro e y31 ⟨n19, h19, l19, x19, k19, N19, rfl, hb⟩
  clear c9_1 c9_2 c9_3 c9_4 c9_9 c10_1 c10_2 c10_3 c10_4 c10_9
  replace P10 := Lib.hid (P10.out.below hb)
  replace P14 := Lib.hid (P14.out.below hb)
  replace P17 := Lib.hid (P17.out.below hb)
  replace B := bstep B hb
  clear hb
  clear SB
  clear P17
  replace P10 := Lib.hid (P10.out.alloc (.cells #[.bool n19, .int .u64 (h19 : Int), .int .u64 (l19 : Int), .int .i64 x19] 28))
  replace P14 := Lib.hid (P14.out.alloc (.cells #[.bool n19, .int .u64 (h19 : Int), .int .u64 (l19 : Int), .int .i64 x19] 28))
  replace B := ballD1 B (.cells #[.bool n19, .int .u64 (h19 : Int), .int .u64 (l19 : Int), .int .i64 x19] 28)
  have P19 := Lib.hid (show HoldsD (y31.alloc (.cells #[.bool n19, .int .u64 (h19 : Int), .int .u64 (l19 : Int), .int .i64 x19] 28)) y31.heap.size n19 h19 l19 x19 from by simp [HoldsD, go_sem])
  go_upto_region 17 with fail
  obtain ⟨gP19, hg⟩ : ∃ g, g = y31.heap.size := ⟨_, rfl⟩
  rw [← hg] at P19
  rw [← hg]
  generalize y31.alloc (.cells #[.bool n19, .int .u64 (h19 : Int), .int .u64 (l19 : Int), .int .i64 x19] 28) = V31 at *
  clear hg
  obtain ⟨⟨c11_1, c11_2, c11_3, c11_4⟩, -, c11_9⟩ := P14.out
  obtain ⟨⟨c12_1, c12_2, c12_3, c12_4⟩, -, c12_9⟩ := P10.out
  go_wp2_with fail
  refine (MO.out _ (HT.out.below B)).mono ?_
  rintro e y32 ⟨om, MP, n21, h21, l21, x21, k21, N21, rfl, hb⟩
  clear c11_1 c11_2 c11_3 c11_4 c11_9 c12_1 c12_2 c12_3 c12_4 c12_9
  replace P10 := Lib.hid (P10.out.below hb)
  replace P14 := Lib.hid (P14.out.below hb)
  replace P19 := Lib.hid (P19.out.below hb)
  replace B := bstep B hb
  clear hb
  clear MO
  replace P10 := Lib.hid (P10.out.alloc (.cells #[.bool n21, .int .u64 (h21 : Int), .int .u64 (l21 : Int), .int .i64 x21] 28))
  replace P14 := Lib.hid (P14.out.alloc (.cells #[.bool n21, .int .u64 (h21 : Int), .int .u64 (l21 : Int), .int .i64 x21] 28))
  replace P19 := Lib.hid (P19.out.alloc (.cells #[.bool n21, .int .u64 (h21 : Int), .int .u64 (l21 : Int), .int .i64 x21] 28))
  replace B := ballD1 B (.cells #[.bool n21, .int .u64 (h21 : Int), .int .u64 (l21 : Int), .int .i64 x21] 28)
  have P21 := Lib.hid (show HoldsD (y32.alloc (.cells #[.bool n21, .int .u64 (h21 : Int), .int .u64 (l21 : Int), .int .i64 x21] 28)) y32.heap.size n21 h21 l21 x21 from by simp [HoldsD, go_sem])
  go_upto_region 18 with fail
  obtain ⟨gP21, hg⟩ : ∃ g, g = y32.heap.size := ⟨_, rfl⟩
  rw [← hg] at P21
  rw [← hg]
  generalize y32.alloc (.cells #[.bool n21, .int .u64 (h21 : Int), .int .u64 (l21 : Int), .int .i64 x21] 28) = V32 at *
  clear hg
  rcases oq with _ | ⟨qs, qc, qx⟩
  · obtain ⟨-, rfl, -⟩ := HQ.out.2
    go_wp2
    go_ret
    exact ⟨rfl, B⟩
  rcases op with _ | ⟨ps, pc, px⟩
  · obtain ⟨-, rfl, -⟩ := HQ.out.2
    obtain ⟨-, rfl, -⟩ := HP.out.2
    go_wp2
    go_ret
    exact ⟨rfl, B⟩
  obtain ⟨-, rfl, rfl, rfl, rfl⟩ := HQ.out.2
  obtain ⟨-, rfl, rfl, rfl, rfl⟩ := HP.out.2
  have om' : om = addF na (nv ah al) ea (!np && !decide (nv hp lp = 0)) (nv hp lp) xp := by
    obtain ⟨q', D', e'⟩ := MP
    rw [e', DivP_det D' HQ.out.1, modQ_some _ _ _ HF.out.1, HP.out.1, modM_some]
  rw [om'] at N21
  obtain ⟨rfl, rfl, rfl, rfl, rfl⟩ := numO_inj N19 N21
  clear N19 N21 MP om' HQ HP HF
  obtain ⟨⟨c13_1, c13_2, c13_3, c13_4⟩, -, c13_9⟩ := P19.out
  obtain ⟨⟨c14_1, c14_2, c14_3, c14_4⟩, -, c14_9⟩ := P21.out
  cases k19
  all_goals
    go_wp2
    go_ret
    exact ⟨rfl, B⟩
end Go.Proofs.YtoobmopmmoficaaDoor
