/-
  The statement DecFit, walked: it answers true, where the document's examples do.
-/
import Derived.Test.YteboohejlkionaaDoorAc
import Derived.Test.YteboohejlkionaaDoorEm
import Derived.Test.YteboohejlkionaaDoorPe
namespace Go.Proofs.YteboohejlkionaaDoor
open Go.RowKit

set_option maxRecDepth 100000 in
set_option maxHeartbeats 8000000 in
theorem decFit_walk0 (AW : AwC) (n : Bool) (h l : Nat) (x m : Int) (n2 : Bool) (ah al bh bl : Nat) (y : Int) (mo : Bool) (h0 : WW h l) (x1 : -9223372036854775808 ≤ x) (x2 : x ≤ 9223372036854775807) (m1 : 0 ≤ m) (m2 : m ≤ 255) (h1 : WW ah al) (h2 : WW bh bl) (w : World) (ht : Tab w) :
    Calls Tryd.prog 6 #[Dv n h l x, .int .u8 m, Wv n2 ah al bh bl y mo] w (RetB true w) := by
  have HT := Lib.hid ht
  have AWH := Lib.hid AW
  have M1 := Lib.hid (make_any n h l x h0 x1 x2)
  have H1 := Lib.hid h1
  have H2 := Lib.hid h2
  obtain ⟨k, hk, k1, k7⟩ : ∃ k : Nat, (k : Int) = m % 7 + 1 ∧ 1 ≤ k ∧ k ≤ 7 := ⟨(m % 7 + 1).toNat, by omega, by omega, by omega⟩
  have K7 := Lib.hid (show k = 1 ∨ k = 2 ∨ k = 3 ∨ k = 4 ∨ k = 5 ∨ k = 6 ∨ k = 7 by omega)
  obtain ⟨kk, hkk, q1, q7⟩ : ∃ kk : Int, kk = (k : Int) ∧ 1 ≤ kk ∧ kk ≤ 7 := ⟨k, rfl, by omega, by omega⟩
  have e1 : IntKind.u8.wrap (1 + m % 7) = kk := by rw [hkk, hk]; simp [IntKind.wrap, IntKind.signed, IntKind.bits]; omega
  have KK := Lib.hid hkk
  clear hkk
  clear ht AW h0 h1 h2 x1 x2
  go_enter Tryd.func6, Tryd.ntmps6
  go_wp2_with fail
  refine (AWH.out _ (HT.out.below (by go_grown))).mono ?_
  rintro e w1 ⟨rfl, hb1⟩
  have A0 := Lib.hid (HoldsD.below (by simp [HoldsD, go_sem]) hb1 : HoldsD w1 w.heap.size n h l x)
  have A1 := Lib.hid (HoldsW.below (by simp [HoldsW, go_sem]) hb1 : HoldsW w1 (w.heap.size + 1) n2 ah al bh bl y mo)
  have B1 : Below w.heap.size w w1 := bstep (by go_grown) hb1
  clear hb1 AWH
  obtain ⟨⟨a1, a2, a3, a4⟩, ⟨a5, a6, a7, a8⟩, a9⟩ := A0.out
  go_wp2_with fail
  refine (M1.out _ (HT.out.below B1)).mono ?_
  rintro e w2 ⟨na, ch, cl, xa, ⟨c1, c2, c3⟩, rfl, hb2⟩
  clear a1 a2 a3 a4 a5 a6 a7 a8 a9 A0 M1
  have CC := Lib.hid (And.intro c1 (And.intro c2 c3))
  replace A1 := Lib.hid (A1.out.below hb2)
  replace B1 := bstep B1 hb2
  clear hb2 c1 c2 c3
  have A2 := Lib.hid (show HoldsD (w2.alloc (.cells #[.bool na, .int .u64 (ch : Int), .int .u64 (cl : Int), .int .i64 xa] 28)) w2.heap.size na ch cl xa from by simp [HoldsD, go_sem])
  replace A1 := Lib.hid (A1.out.alloc (.cells #[.bool na, .int .u64 (ch : Int), .int .u64 (cl : Int), .int .i64 xa] 28))
  replace B1 := ballD1 B1 (.cells #[.bool na, .int .u64 (ch : Int), .int .u64 (cl : Int), .int .i64 xa] 28)
  go_upto_region 4 with fail
  obtain ⟨g, hg⟩ : ∃ g, g = w2.heap.size := ⟨_, rfl⟩
  rw [← hg] at A2
  rw [← hg]
  generalize w2.alloc (.cells #[.bool na, .int .u64 (ch : Int), .int .u64 (cl : Int), .int .i64 xa] 28) = V at *
  clear hg
  obtain ⟨⟨a1, a2, a3, a4⟩, ⟨a5, a6, a7, a8⟩, a9⟩ := A2.out
  have FI := Lib.hid (fit_any k K7.out na 0 0 ch cl xa false ⟨by decide, by decide⟩ CC.out.1 (by have := CC.out.2.1.2.1; omega) (by have := CC.out.2.1.2.2; omega))
  rw [show nv2 0 0 ch cl = nv ch cl from by unfold nv2 nv; omega, fitF_self CC.out.2.1 CC.out.2.2, ← KK.out] at FI
  clear hk k1 k7
  go_wp2_with fail
  refine (FI.out _ (HT.out.below B1)).mono ?_
  rintro e w3 ⟨nf, fh, fl, xf, okf, N, rfl, hb3⟩
  obtain ⟨f1, rfl, rfl, f4, rfl⟩ := N
  obtain ⟨rfl, rfl⟩ := nv_inj f1 CC.out.1 f4
  clear f1 f4 a1 a2 a3 a4 a5 a6 a7 a8 a9 FI
  replace A1 := Lib.hid (A1.out.below hb3)
  replace A2 := Lib.hid (A2.out.below hb3)
  replace B1 := bstep B1 hb3
  clear hb3
  obtain ⟨⟨a1, a2, a3, a4⟩, -, a9⟩ := A2.out
  have z1 : g < w3.heap.size + 1 := by omega
  have A3 := Lib.hid (A1.out.alloc (.cells #[.bool nf, .int .u64 (fh : Int), .int .u64 (fl : Int), .int .i64 xf] 28))
  replace B1 := ballD1 B1 (.cells #[.bool nf, .int .u64 (fh : Int), .int .u64 (fl : Int), .int .i64 xf] 28)
  go_upto_region 7 with fail
  clear a1 a2 a3 a4 a9 z1 A2 A1 CC e1 q1 q7 KK K7
  generalize w3.alloc (.cells #[.bool nf, .int .u64 (fh : Int), .int .u64 (fl : Int), .int .i64 xf] 28) = V2 at *
  obtain ⟨⟨a1, a2, a3, a4, a5, a6, a7⟩, -, a15⟩ := A3.out
  by_cases lo : y < -7000
  · have t1 : decide (y < -7000) = true := decide_eq_true lo
    go_wp2
    go_ret
    exact ⟨rfl, B1⟩
  have t1 : decide (y < -7000) = false := decide_eq_false lo
  by_cases hi : 7000 < y
  · have t2 : decide (7000 < y) = true := decide_eq_true hi
    go_wp2
    go_ret
    exact ⟨rfl, B1⟩
  have t2 : decide (7000 < y) = false := decide_eq_false hi
  obtain ⟨o6, ho6⟩ : ∃ o, o = fitF 6 n2 (nv2 ah al bh bl) mo y := ⟨_, rfl⟩
  obtain ⟨o7, ho7⟩ : ∃ o, o = fitF 7 n2 (nv2 ah al bh bl) mo y := ⟨_, rfl⟩
  obtain ⟨o1, ho1⟩ : ∃ o, o = fitF 1 n2 (nv2 ah al bh bl) mo y := ⟨_, rfl⟩
  have F6 := Lib.hid (fit_any 6 (by decide) n2 ah al bh bl y mo H1.out H2.out (by omega) (by omega))
  have F7 := Lib.hid (fit_any 7 (by decide) n2 ah al bh bl y mo H1.out H2.out (by omega) (by omega))
  have F1 := Lib.hid (fit_any 1 (by decide) n2 ah al bh bl y mo H1.out H2.out (by omega) (by omega))
  rw [← ho6] at F6
  rw [← ho7] at F7
  rw [← ho1] at F1
  have O6 := Lib.hid ho6
  have O7 := Lib.hid ho7
  have O1 := Lib.hid ho1
  clear ho6 ho7 ho1 lo hi
  go_wp2_with fail
  refine (F6.out _ (HT.out.below B1)).mono ?_
  rintro e w4 ⟨n6', h6', l6', x6', k6', N, rfl, hb3⟩
  have N6 := Lib.hid N
  clear a1 a2 a3 a4 a5 a6 a7 a15 N F6
  replace A3 := Lib.hid ((A3.out.below hb3).alloc (.cells #[.bool n6', .int .u64 (h6' : Int), .int .u64 (l6' : Int), .int .i64 x6'] 28))
  replace B1 := ballD1 (bstep B1 hb3) (.cells #[.bool n6', .int .u64 (h6' : Int), .int .u64 (l6' : Int), .int .i64 x6'] 28)
  have E6 := Lib.hid (show HoldsD (w4.alloc (.cells #[.bool n6', .int .u64 (h6' : Int), .int .u64 (l6' : Int), .int .i64 x6'] 28)) w4.heap.size n6' h6' l6' x6' from by simp [HoldsD, go_sem])
  clear hb3
  go_upto_region 10 with fail
  obtain ⟨g6, hg⟩ : ∃ g, g = w4.heap.size := ⟨_, rfl⟩
  rw [← hg] at E6
  rw [← hg]
  generalize w4.alloc (.cells #[.bool n6', .int .u64 (h6' : Int), .int .u64 (l6' : Int), .int .i64 x6'] 28) = V3 at *
  clear hg
  obtain ⟨⟨a1, a2, a3, a4, a5, a6, a7⟩, -, a15⟩ := A3.out
  go_wp2_with fail
  refine (F7.out _ (HT.out.below B1)).mono ?_
  rintro e w5 ⟨n7', h7', l7', x7', k7', N, rfl, hb3⟩
  have N7 := Lib.hid N
  clear a1 a2 a3 a4 a5 a6 a7 a15 N F7
  replace A3 := Lib.hid ((A3.out.below hb3).alloc (.cells #[.bool n7', .int .u64 (h7' : Int), .int .u64 (l7' : Int), .int .i64 x7'] 28))
  replace E6 := Lib.hid ((E6.out.below hb3).alloc (.cells #[.bool n7', .int .u64 (h7' : Int), .int .u64 (l7' : Int), .int .i64 x7'] 28))
  replace B1 := ballD1 (bstep B1 hb3) (.cells #[.bool n7', .int .u64 (h7' : Int), .int .u64 (l7' : Int), .int .i64 x7'] 28)
  have E7 := Lib.hid (show HoldsD (w5.alloc (.cells #[.bool n7', .int .u64 (h7' : Int), .int .u64 (l7' : Int), .int .i64 x7'] 28)) w5.heap.size n7' h7' l7' x7' from by simp [HoldsD, go_sem])
  clear hb3
  go_upto_region 11 with fail
  obtain ⟨g7, hg⟩ : ∃ g, g = w5.heap.size := ⟨_, rfl⟩
  rw [← hg] at E7
  rw [← hg]
  generalize w5.alloc (.cells #[.bool n7', .int .u64 (h7' : Int), .int .u64 (l7' : Int), .int .i64 x7'] 28) = V4 at *
  clear hg
  obtain ⟨⟨a1, a2, a3, a4, a5, a6, a7⟩, -, a15⟩ := A3.out
  go_wp2_with fail
  refine (F1.out _ (HT.out.below B1)).mono ?_
  rintro e w6 ⟨n1', h1', l1', x1', k1', N, rfl, hb3⟩
  have N1 := Lib.hid N
  clear a1 a2 a3 a4 a5 a6 a7 a15 N F1
  replace A3 := Lib.hid ((A3.out.below hb3).alloc (.cells #[.bool n1', .int .u64 (h1' : Int), .int .u64 (l1' : Int), .int .i64 x1'] 28))
  replace E6 := Lib.hid ((E6.out.below hb3).alloc (.cells #[.bool n1', .int .u64 (h1' : Int), .int .u64 (l1' : Int), .int .i64 x1'] 28))
  replace E7 := Lib.hid ((E7.out.below hb3).alloc (.cells #[.bool n1', .int .u64 (h1' : Int), .int .u64 (l1' : Int), .int .i64 x1'] 28))
  replace B1 := ballD1 (bstep B1 hb3) (.cells #[.bool n1', .int .u64 (h1' : Int), .int .u64 (l1' : Int), .int .i64 x1'] 28)
  have E1 := Lib.hid (show HoldsD (w6.alloc (.cells #[.bool n1', .int .u64 (h1' : Int), .int .u64 (l1' : Int), .int .i64 x1'] 28)) w6.heap.size n1' h1' l1' x1' from by simp [HoldsD, go_sem])
  clear hb3
  go_upto_region 12 with fail
  obtain ⟨g1, hg⟩ : ∃ g, g = w6.heap.size := ⟨_, rfl⟩
  rw [← hg] at E1
  rw [← hg]
  generalize w6.alloc (.cells #[.bool n1', .int .u64 (h1' : Int), .int .u64 (l1' : Int), .int .i64 x1'] 28) = V5 at *
  clear hg
  have HN := Lib.hid (nv2_lt' H1.out H2.out)
  clear A3 H1 H2 t1 t2 m1 m2
  rcases o6 with _ | ⟨s6, c6, e6⟩
  · obtain ⟨-, rfl, -⟩ := N6.out
    clear N6 N7 N1 O6 O7 O1 E6 E7 E1 HN
    go_wp2
    go_ret
    exact ⟨rfl, B1⟩
  obtain ⟨u6, rfl, y6⟩ := N6.out
  rcases o7 with _ | ⟨s7, c7, e7⟩
  · obtain ⟨-, rfl, -⟩ := N7.out
    clear N6 N7 N1 O6 O7 O1 E6 E7 E1 HN u6 y6
    go_wp2
    go_ret
    exact ⟨rfl, B1⟩
  obtain ⟨u7, rfl, y7⟩ := N7.out
  rcases o1 with _ | ⟨s1, c1, e1⟩
  · obtain ⟨-, rfl, -⟩ := N1.out
    clear N6 N7 N1 O6 O7 O1 E6 E7 E1 HN u6 u7 y6 y7
    go_wp2
    go_ret
    exact ⟨rfl, B1⟩
  obtain ⟨u1, rfl, y1⟩ := N1.out
  obtain ⟨rfl, q6, rfl⟩ := y6
  obtain ⟨rfl, q7, rfl⟩ := y7
  obtain ⟨rfl, q1, rfl⟩ := y1
  subst q6 q7 q1
  obtain ⟨p6, d6, z6⟩ := fitF_may O6.out.symm HN.out
  obtain ⟨p7, d7, z7⟩ := fitF_may O7.out.symm HN.out
  obtain ⟨p1, d1, z1⟩ := fitF_may O1.out.symm HN.out
  have TH := Lib.hid (fit_three HN.out O6.out.symm O7.out.symm O1.out.symm)
  have M6 := Lib.hid (may_any n6' h6' l6' x6' u6)
  have M7 := Lib.hid (may_any n7' h7' l7' x7' u7)
  have M1 := Lib.hid (may_any n1' h1' l1' x1' u1)
  rw [p6] at M6
  rw [p7] at M7
  rw [p1] at M1
  have C67 := Lib.hid (cmp_dec n6' h6' l6' x6' n7' h7' l7' x7' u6 u7 d6.2.1 d6.2.2 d7.2.1 d7.2.2)
  have C16 := Lib.hid (cmp_dec n1' h1' l1' x1' n6' h6' l6' x6' u1 u6 d1.2.1 d1.2.2 d6.2.1 d6.2.2)
  have C17 := Lib.hid (cmp_dec n1' h1' l1' x1' n7' h7' l7' x7' u1 u7 d1.2.1 d1.2.2 d7.2.1 d7.2.2)
  rw [cmpD_val d6 d7] at C67
  rw [cmpD_val d1 d6] at C16
  rw [cmpD_val d1 d7] at C17
  obtain ⟨v6, hv6⟩ : ∃ v, v = vlZ n6' (nv h6' l6') x6' := ⟨_, rfl⟩
  obtain ⟨v7, hv7⟩ : ∃ v, v = vlZ n7' (nv h7' l7') x7' := ⟨_, rfl⟩
  obtain ⟨v1, hv1⟩ : ∃ v, v = vlZ n1' (nv h1' l1') x1' := ⟨_, rfl⟩
  rw [← hv6, ← hv7] at C67
  rw [← hv1, ← hv6] at C16
  rw [← hv1, ← hv7] at C17
  have T3 := TH.out
  rw [← hv6, ← hv7, ← hv1] at T3
  clear hv6 hv7 hv1 TH p6 p7 p1 d6 d7 d1 z6 z7 z1 u6 u7 u1 N6 N7 N1 O6 O7 O1 HN
  obtain ⟨c67, hc67⟩ : ∃ c, c = cmpZ v6 v7 := ⟨_, rfl⟩
  obtain ⟨c16, hc16⟩ : ∃ c, c = cmpZ v1 v6 := ⟨_, rfl⟩
  obtain ⟨c17, hc17⟩ : ∃ c, c = cmpZ v1 v7 := ⟨_, rfl⟩
  rw [← hc67] at C67
  rw [← hc16] at C16
  rw [← hc17] at C17
  have t67 : decide (c67 ≤ 0) = true := by rw [hc67]; exact decide_eq_true (cmpZ_le.2 T3.1)
  clear hc67
  go_upto_region 14 with fail
  obtain ⟨⟨a1, a2, a3, a4⟩, -, a9⟩ := E6.out
  go_wp2_with fail
  refine (M6.out _ (HT.out.below B1)).mono ?_
  rintro e w7 ⟨rfl, hb⟩
  replace E6 := Lib.hid (E6.out.below hb)
  replace E7 := Lib.hid (E7.out.below hb)
  replace E1 := Lib.hid (E1.out.below hb)
  replace B1 := bstep B1 hb
  clear hb a1 a2 a3 a4 a9 M6
  obtain ⟨⟨a1, a2, a3, a4⟩, -, a9⟩ := E7.out
  go_wp2_with fail
  refine (M7.out _ (HT.out.below B1)).mono ?_
  rintro e w8 ⟨rfl, hb⟩
  replace E6 := Lib.hid (E6.out.below hb)
  replace E7 := Lib.hid (E7.out.below hb)
  replace E1 := Lib.hid (E1.out.below hb)
  replace B1 := bstep B1 hb
  clear hb a1 a2 a3 a4 a9 M7
  obtain ⟨⟨a1, a2, a3, a4⟩, -, a9⟩ := E1.out
  go_wp2_with fail
  refine (M1.out _ (HT.out.below B1)).mono ?_
  rintro e w9 ⟨rfl, hb⟩
  replace E6 := Lib.hid (E6.out.below hb)
  replace E7 := Lib.hid (E7.out.below hb)
  replace E1 := Lib.hid (E1.out.below hb)
  replace B1 := bstep B1 hb
  clear hb a1 a2 a3 a4 a9 M1
  obtain ⟨⟨a1, a2, a3, a4⟩, -, a9⟩ := E6.out
  obtain ⟨⟨b1, b2, b3, b4⟩, -, b9⟩ := E7.out
  go_wp2_with fail
  refine (C67.out _ (HT.out.below B1)).mono ?_
  rintro e w10 ⟨rfl, hb⟩
  replace E6 := Lib.hid (E6.out.below hb)
  replace E7 := Lib.hid (E7.out.below hb)
  replace E1 := Lib.hid (E1.out.below hb)
  replace B1 := bstep B1 hb
  clear hb a1 a2 a3 a4 a9 b1 b2 b3 b4 b9 C67
  obtain ⟨⟨a1, a2, a3, a4⟩, -, a9⟩ := E6.out
  obtain ⟨⟨b1, b2, b3, b4⟩, -, b9⟩ := E1.out
  by_cases eq : v1 = v6
  · have t16 : (c16 == 0) = true := by rw [hc16, cmpZ_eq.2 eq]; rfl
    clear hc16 hc17 T3 eq C17
    go_wp2_with fail
    refine (C16.out _ (HT.out.below B1)).mono ?_
    rintro e w11 ⟨rfl, hb⟩
    replace B1 := bstep B1 hb
    clear hb a1 a2 a3 a4 a9 b1 b2 b3 b4 b9 C16 E6 E7 E1
    go_wp2
    go_ret
    exact ⟨rfl, B1⟩
  · have t16 : (c16 == 0) = false := by rw [hc16]; simp [cmpZ_eq, eq]
    have t17 : (c17 == 0) = true := by rw [hc17, cmpZ_eq.2 (T3.2.resolve_left eq)]; rfl
    clear hc16 hc17 T3 eq
    go_wp2_with fail
    refine (C16.out _ (HT.out.below B1)).mono ?_
    rintro e w11 ⟨rfl, hb⟩
    replace E7 := Lib.hid (E7.out.below hb)
    replace E1 := Lib.hid (E1.out.below hb)
    replace B1 := bstep B1 hb
    clear hb a1 a2 a3 a4 a9 b1 b2 b3 b4 b9 C16 E6
    obtain ⟨⟨a1, a2, a3, a4⟩, -, a9⟩ := E7.out
    obtain ⟨⟨b1, b2, b3, b4⟩, -, b9⟩ := E1.out
    go_wp2_with fail
    refine (C17.out _ (HT.out.below B1)).mono ?_
    rintro e w12 ⟨rfl, hb⟩
    replace B1 := bstep B1 hb
    clear hb a1 a2 a3 a4 a9 b1 b2 b3 b4 b9 C17 E7 E1
    go_wp2
    go_ret
    exact ⟨rfl, B1⟩
end Go.Proofs.YteboohejlkionaaDoor
