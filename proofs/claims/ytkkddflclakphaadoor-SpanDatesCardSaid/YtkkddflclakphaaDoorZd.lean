/-
  The statement SpanDates, walked: it answers true, where the document's examples do.
-/
import Derived.Test.YtkkddflclakphaaDoorZb
import Derived.Test.YtkkddflclakphaaDoorZc
namespace Go.Proofs.YtkkddflclakphaaDoor
open Go.RowKit

/-- A day that is there, hidden behind letters. -/
theorem madeS (y m d : Int) : ∃ Y M D : Int, Day Y M D ∧ ∀ w : World, Calls Tryd.prog 21 #[.int .i64 y, .int .i64 m, .int .i64 d] w (Ret (Dt Y M D) w) := ⟨_, _, _, make_day y m d, make_any y m d⟩
theorem may_mid : mayM 0 false 0 = true := by decide
/-- What Later answers of a midnight. -/
theorem later_total (y m d n : Int) (h : Day y m d) : ∃ (E G H S : Int) (Z : Bool) (O : Int) (ok : Bool), (∀ w : World, Calls Tryd.prog 23 #[Mo y m d 0 false 0, .int .i64 n] w (Ret (.tuple #[Mo E G H S Z O, .bool ok]) w)) ∧ (ok = false → E = 0 ∧ G = 0 ∧ H = 0) := by
  by_cases a : n < -9007199254740992
  · exact ⟨_, _, _, _, _, _, _, laterN_bad y m d 0 false 0 n (.inr (.inl a)), fun _ => ⟨rfl, rfl, rfl⟩⟩
  by_cases b : 9007199254740992 < n
  · exact ⟨_, _, _, _, _, _, _, laterN_bad y m d 0 false 0 n (.inr (.inr b)), fun _ => ⟨rfl, rfl, rfl⟩⟩
  have ri := inst_range h may_mid
  have hi : -72057594037927936 ≤ instI y m d 0 0 + n ∧ instI y m d 0 0 + n ≤ 72057594037927936 := by omega
  by_cases c : (instI y m d 0 0 + n + 0) / 86400 < -365243219162 ∨ 365241780472 ≤ (instI y m d 0 0 + n + 0) / 86400
  · exact ⟨_, _, _, _, _, _, _, laterN_of y m d 0 false 0 n h may_mid (by omega) _ _ _ _ _ _ false (ofN_far _ 0 false 0 may_mid hi c), fun _ => ⟨rfl, rfl, rfl⟩⟩
  · obtain ⟨Y, M, D, h', e'⟩ := num_sur ((instI y m d 0 0 + n + 0) / 86400) (by omega) (by omega)
    exact ⟨_, _, _, _, _, _, _, laterN_of y m d 0 false 0 n h may_mid (by omega) _ _ _ _ _ _ true (ofN_yes _ 0 false 0 Y M D may_mid hi h' e'), fun c => by cases c⟩
/-- Whole days later is the day of that number. -/
theorem later_days (y m d k : Int) (h : Day y m d) (k1 : -2147483648 ≤ k) (k2 : k ≤ 2147483647) : ∃ (E G H : Int) (ok : Bool), (∀ w : World, Calls Tryd.prog 22 #[Dt y m d, .int .i64 (86400 * k)] w (Ret (.tuple #[Dt E G H, .bool ok]) w)) ∧ ∀ w : World, Calls Tryd.prog 26 #[.int .i64 (numI y m d + k)] w (Ret (.tuple #[Dt E G H, .bool ok]) w) := by
  have ri := inst_range h may_mid
  have e : (instI y m d 0 0 + 86400 * k + 0) / 86400 = numI y m d + k := by unfold instI; omega
  have hi : -72057594037927936 ≤ instI y m d 0 0 + 86400 * k ∧ instI y m d 0 0 + 86400 * k ≤ 72057594037927936 := by omega
  by_cases c : numI y m d + k < -365243219162 ∨ 365241780472 ≤ numI y m d + k
  · exact ⟨_, _, _, _, dateLater_of y m d _ _ _ _ _ _ _ _ (laterN_of y m d 0 false 0 _ h may_mid (by omega) _ _ _ _ _ _ false (ofN_far _ 0 false 0 may_mid hi (by rw [e]; exact c))), of_none _ c⟩
  · obtain ⟨Y, M, D, h', e'⟩ := num_sur (numI y m d + k) (by omega) (by omega)
    refine ⟨_, _, _, _, dateLater_of y m d _ _ _ _ _ _ _ _ (laterN_of y m d 0 false 0 _ h may_mid (by omega) _ _ _ _ _ _ true (ofN_yes _ 0 false 0 Y M D may_mid hi h' (by rw [e]; exact e'))), ?_⟩
    have O := of_num Y M D h'
    rw [e'] at O
    exact O
set_option linter.unusedSimpArgs false in
set_option linter.unusedVariables false in
set_option maxRecDepth 100000 in
set_option maxHeartbeats 8000000 in
theorem spanDates_walk (AW : AwS) (y m d n v k : Int) (k1 : -2147483648 ≤ k) (k2 : k ≤ 2147483647) (w : World) (ht : Tab w) : Calls Tryd.prog 6 #[.int .i64 y, .int .i64 m, .int .i64 d, .int .i64 n, .int .i64 v, .int .i32 k] w (Ret (.bool true) w) := by
  have HT := Lib.hid ht
  have AW' := Lib.hid AW
  obtain ⟨Y, M, D, h1, M10⟩ := madeS y m d
  obtain ⟨V, U, T, h2, M20⟩ := madeS v d m
  obtain ⟨E, G, H, S, Z, O, ok, LA0, hz0⟩ := later_total Y M D n h1
  have DL0 := dateLater_of Y M D n E G H S Z O ok LA0
  have N10 := number_yes Y M D h1
  have N20 := number_yes V U T h2
  have r1 := num_in h1
  have r2 := num_in h2
  have bt := btI_of h1 may_mid h2 may_mid rfl
  have BT1 := between_any Y M D 0 false 0 V U T 0 false 0
  rw [bt.1, bt.2, show instI V U T 0 0 - instI Y M D 0 0 = 86400 * (numI V U T - numI Y M D) by unfold instI; omega] at BT1
  have BT0 := datesBetween_of Y M D V U T _ _ BT1
  obtain ⟨E', G', H', ok', D20, OF0⟩ := later_days Y M D k h1 k1 k2
  generalize numI Y M D = I at *
  generalize numI V U T = J at *
  have u1 : I64 k := by unfold I64; omega
  have u2 : I64 (86400 * k) := by unfold I64; omega
  have u3 : I64 (I + k) := by unfold I64; omega
  have u4 : I64 (J - I) := by unfold I64; omega
  have u5 : I64 (86400 * (J - I)) := by unfold I64; omega
  have f1 := u1.wrap
  have f2 := u2.wrap
  have f3 := u3.wrap
  have f4 := u4.wrap
  have f5 := u5.wrap
  have g1 := u1.wrap'
  have g2 := u2.wrap'
  have g3 := u3.wrap'
  have g4 := u4.wrap'
  have g5 := u5.wrap'
  have M1 := Lib.hid M10
  have M2 := Lib.hid M20
  have DL := Lib.hid DL0
  have LA := Lib.hid LA0
  have N1 := Lib.hid N10
  have N2 := Lib.hid N20
  have BT := Lib.hid BT0
  have D2 := Lib.hid D20
  have OF := Lib.hid OF0
  have hz := Lib.hid hz0
  clear M10 M20 DL0 LA0 N10 N20 BT0 BT1 D20 OF0 hz0 bt r1 r2 h1 h2 u1 u2 u3 u4 u5 k1 k2 ht AW
  go_enter Tryd.func6, Tryd.ntmps6
  go_wp2_with fail
  refine (AW'.out _ (HT.out.below (by go_grown))).mono ?_
  rintro e w0 ⟨rfl, hb⟩
  have B : Below w.heap.size w w0 := bstep (by go_grown) hb
  clear hb AW' HT
  go_wp2_with fail
  refine (M1.out _).mono ?_
  rintro e w1 ⟨rfl, hb⟩
  replace B := bstep B hb
  clear hb M1
  go_wp2_with fail
  refine (M2.out _).mono ?_
  rintro e w2 ⟨rfl, hb⟩
  replace B := bstep B hb
  clear hb M2
  go_upto_region 4 with fail
  have PA := Lib.hid (HoldsT.alloc (HoldsT.new rfl) _ : HoldsT ((w2.alloc (DtC Y M D)).alloc (DtC V U T)) w2.heap.size Y M D)
  have PB := Lib.hid (HoldsT.new (by simp) : HoldsT ((w2.alloc (DtC Y M D)).alloc (DtC V U T)) (w2.heap.size + 1) V U T)
  replace B := ballD1 (ballD1 B (DtC Y M D)) (DtC V U T)
  change Code.wp _ _ _ _ ((w2.alloc (DtC Y M D)).alloc (DtC V U T))
  generalize ((w2.alloc (DtC Y M D)).alloc (DtC V U T)) = w3 at *
  obtain ⟨gPA, hg1⟩ : ∃ g, g = w2.heap.size := ⟨_, rfl⟩
  obtain ⟨gPB, hg2⟩ : ∃ g, g = gPA + 1 := ⟨_, rfl⟩
  rw [← hg1] at PA PB ⊢
  rw [← hg2] at PB ⊢
  clear hg1 hg2
  obtain ⟨⟨c0_0, c0_1, c0_2⟩, -, c0z⟩ := PA.out
  obtain ⟨⟨c1_0, c1_1, c1_2⟩, -, c1z⟩ := PB.out
  go_wp2_with fail
  refine (DL.out _).mono ?_
  rintro e w4 ⟨rfl, hb⟩
  replace PA := Lib.hid (PA.out.below hb)
  replace PB := Lib.hid (PB.out.below hb)
  replace B := bstep B hb
  clear hb DL
  clear c0_0 c0_1 c0_2 c0z c1_0 c1_1 c1_2 c1z
  replace PA := Lib.hid (PA.out.alloc (DtC E G H))
  replace PB := Lib.hid (PB.out.alloc (DtC E G H))
  have PL := Lib.hid (HoldsT.new rfl : HoldsT (w4.alloc (DtC E G H)) w4.heap.size E G H)
  replace B := ballD1 B (DtC E G H)
  go_upto_region 5 with fail
  change Code.wp _ _ _ _ (w4.alloc (DtC E G H))
  generalize w4.alloc (DtC E G H) = w5 at *
  obtain ⟨gPL, hg⟩ : ∃ g, g = w4.heap.size := ⟨_, rfl⟩
  rw [← hg] at PL ⊢
  clear hg
  obtain ⟨⟨c0_0, c0_1, c0_2⟩, -, c0z⟩ := PA.out
  obtain ⟨⟨c1_0, c1_1, c1_2⟩, -, c1z⟩ := PB.out
  obtain ⟨⟨c2_0, c2_1, c2_2⟩, -, c2z⟩ := PL.out
  go_wp2_with fail
  refine (LA.out _).mono ?_
  rintro e w6 ⟨rfl, hb⟩
  replace PA := Lib.hid (PA.out.below hb)
  replace PB := Lib.hid (PB.out.below hb)
  replace PL := Lib.hid (PL.out.below hb)
  replace B := bstep B hb
  clear hb LA
  clear c0_0 c0_1 c0_2 c0z c1_0 c1_1 c1_2 c1z c2_0 c2_1 c2_2 c2z
  replace PA := Lib.hid (PA.out.alloc (MoC E G H S Z O))
  replace PB := Lib.hid (PB.out.alloc (MoC E G H S Z O))
  replace PL := Lib.hid (PL.out.alloc (MoC E G H S Z O))
  have PX := Lib.hid (HoldsN.new rfl : HoldsN (w6.alloc (MoC E G H S Z O)) w6.heap.size E G H S Z O)
  replace B := ballD1 B (MoC E G H S Z O)
  go_upto_region 6 with fail
  change Code.wp _ _ _ _ (w6.alloc (MoC E G H S Z O))
  generalize w6.alloc (MoC E G H S Z O) = w7 at *
  obtain ⟨gPX, hg⟩ : ∃ g, g = w6.heap.size := ⟨_, rfl⟩
  rw [← hg] at PX ⊢
  clear hg
  cases ok
  · obtain ⟨rfl, rfl, rfl⟩ := hz.out (by trivial)
    clear hz
    obtain ⟨⟨c0_0, c0_1, c0_2⟩, -, c0z⟩ := PA.out
    obtain ⟨⟨c1_0, c1_1, c1_2⟩, -, c1z⟩ := PB.out
    obtain ⟨⟨c2_0, c2_1, c2_2⟩, -, c2z⟩ := PL.out
    obtain ⟨⟨c3_0, c3_1, c3_2, c3_3, c3_4, c3_5⟩, -, c3z⟩ := PX.out
    go_wp2_with fail
    refine (N1.out _).mono ?_
    rintro e w8 ⟨rfl, hb⟩
    replace PA := Lib.hid (PA.out.below hb)
    replace PB := Lib.hid (PB.out.below hb)
    replace PL := Lib.hid (PL.out.below hb)
    replace PX := Lib.hid (PX.out.below hb)
    replace B := bstep B hb
    clear hb N1
    clear c0_0 c0_1 c0_2 c0z c1_0 c1_1 c1_2 c1z c2_0 c2_1 c2_2 c2z c3_0 c3_1 c3_2 c3_3 c3_4 c3_5 c3z
    clear PL
    clear PX
    obtain ⟨⟨c0_0, c0_1, c0_2⟩, -, c0z⟩ := PA.out
    obtain ⟨⟨c1_0, c1_1, c1_2⟩, -, c1z⟩ := PB.out
    go_wp2_with fail
    refine (N2.out _).mono ?_
    rintro e w9 ⟨rfl, hb⟩
    replace PA := Lib.hid (PA.out.below hb)
    replace PB := Lib.hid (PB.out.below hb)
    replace B := bstep B hb
    clear hb N2
    clear c0_0 c0_1 c0_2 c0z c1_0 c1_1 c1_2 c1z
    obtain ⟨⟨c0_0, c0_1, c0_2⟩, -, c0z⟩ := PA.out
    obtain ⟨⟨c1_0, c1_1, c1_2⟩, -, c1z⟩ := PB.out
    go_wp2_with fail
    refine (BT.out _).mono ?_
    rintro e w10 ⟨rfl, hb⟩
    replace PA := Lib.hid (PA.out.below hb)
    replace PB := Lib.hid (PB.out.below hb)
    replace B := bstep B hb
    clear hb BT
    clear c0_0 c0_1 c0_2 c0z c1_0 c1_1 c1_2 c1z
    obtain ⟨⟨c0_0, c0_1, c0_2⟩, -, c0z⟩ := PA.out
    obtain ⟨⟨c1_0, c1_1, c1_2⟩, -, c1z⟩ := PB.out
    go_wp2_with fail
    refine (D2.out _).mono ?_
    rintro e w11 ⟨rfl, hb⟩
    replace PA := Lib.hid (PA.out.below hb)
    replace PB := Lib.hid (PB.out.below hb)
    replace B := bstep B hb
    clear hb D2
    clear c0_0 c0_1 c0_2 c0z c1_0 c1_1 c1_2 c1z
    replace PA := Lib.hid (PA.out.alloc (DtC E' G' H'))
    replace PB := Lib.hid (PB.out.alloc (DtC E' G' H'))
    have PC := Lib.hid (HoldsT.new rfl : HoldsT (w11.alloc (DtC E' G' H')) w11.heap.size E' G' H')
    replace B := ballD1 B (DtC E' G' H')
    go_upto_region 12 with fail
    change Code.wp _ _ _ _ (w11.alloc (DtC E' G' H'))
    generalize w11.alloc (DtC E' G' H') = w12 at *
    obtain ⟨gPC, hg⟩ : ∃ g, g = w11.heap.size := ⟨_, rfl⟩
    rw [← hg] at PC ⊢
    clear hg
    obtain ⟨⟨c0_0, c0_1, c0_2⟩, -, c0z⟩ := PA.out
    obtain ⟨⟨c1_0, c1_1, c1_2⟩, -, c1z⟩ := PB.out
    obtain ⟨⟨c2_0, c2_1, c2_2⟩, -, c2z⟩ := PC.out
    go_wp2_with fail
    refine (OF.out _).mono ?_
    rintro e w13 ⟨rfl, hb⟩
    replace PA := Lib.hid (PA.out.below hb)
    replace PB := Lib.hid (PB.out.below hb)
    replace PC := Lib.hid (PC.out.below hb)
    replace B := bstep B hb
    clear hb OF
    clear c0_0 c0_1 c0_2 c0z c1_0 c1_1 c1_2 c1z c2_0 c2_1 c2_2 c2z
    replace PA := Lib.hid (PA.out.alloc (DtC E' G' H'))
    replace PB := Lib.hid (PB.out.alloc (DtC E' G' H'))
    replace PC := Lib.hid (PC.out.alloc (DtC E' G' H'))
    have PE := Lib.hid (HoldsT.new rfl : HoldsT (w13.alloc (DtC E' G' H')) w13.heap.size E' G' H')
    replace B := ballD1 B (DtC E' G' H')
    go_upto_region 13 with fail
    change Code.wp _ _ _ _ (w13.alloc (DtC E' G' H'))
    generalize w13.alloc (DtC E' G' H') = w14 at *
    obtain ⟨gPE, hg⟩ : ∃ g, g = w13.heap.size := ⟨_, rfl⟩
    rw [← hg] at PE ⊢
    clear hg
    obtain ⟨⟨c2_0, c2_1, c2_2⟩, -, c2z⟩ := PC.out
    obtain ⟨⟨c3_0, c3_1, c3_2⟩, -, c3z⟩ := PE.out
    go_wp2
    go_ret
    exact ⟨rfl, B⟩
  · clear hz
    obtain ⟨⟨c0_0, c0_1, c0_2⟩, -, c0z⟩ := PA.out
    obtain ⟨⟨c1_0, c1_1, c1_2⟩, -, c1z⟩ := PB.out
    obtain ⟨⟨c2_0, c2_1, c2_2⟩, -, c2z⟩ := PL.out
    obtain ⟨⟨c3_0, c3_1, c3_2, c3_3, c3_4, c3_5⟩, -, c3z⟩ := PX.out
    go_wp2_with fail
    refine (N1.out _).mono ?_
    rintro e w8 ⟨rfl, hb⟩
    replace PA := Lib.hid (PA.out.below hb)
    replace PB := Lib.hid (PB.out.below hb)
    replace PL := Lib.hid (PL.out.below hb)
    replace PX := Lib.hid (PX.out.below hb)
    replace B := bstep B hb
    clear hb N1
    clear c0_0 c0_1 c0_2 c0z c1_0 c1_1 c1_2 c1z c2_0 c2_1 c2_2 c2z c3_0 c3_1 c3_2 c3_3 c3_4 c3_5 c3z
    clear PL
    clear PX
    obtain ⟨⟨c0_0, c0_1, c0_2⟩, -, c0z⟩ := PA.out
    obtain ⟨⟨c1_0, c1_1, c1_2⟩, -, c1z⟩ := PB.out
    go_wp2_with fail
    refine (N2.out _).mono ?_
    rintro e w9 ⟨rfl, hb⟩
    replace PA := Lib.hid (PA.out.below hb)
    replace PB := Lib.hid (PB.out.below hb)
    replace B := bstep B hb
    clear hb N2
    clear c0_0 c0_1 c0_2 c0z c1_0 c1_1 c1_2 c1z
    obtain ⟨⟨c0_0, c0_1, c0_2⟩, -, c0z⟩ := PA.out
    obtain ⟨⟨c1_0, c1_1, c1_2⟩, -, c1z⟩ := PB.out
    go_wp2_with fail
    refine (BT.out _).mono ?_
    rintro e w10 ⟨rfl, hb⟩
    replace PA := Lib.hid (PA.out.below hb)
    replace PB := Lib.hid (PB.out.below hb)
    replace B := bstep B hb
    clear hb BT
    clear c0_0 c0_1 c0_2 c0z c1_0 c1_1 c1_2 c1z
    obtain ⟨⟨c0_0, c0_1, c0_2⟩, -, c0z⟩ := PA.out
    obtain ⟨⟨c1_0, c1_1, c1_2⟩, -, c1z⟩ := PB.out
    go_wp2_with fail
    refine (D2.out _).mono ?_
    rintro e w11 ⟨rfl, hb⟩
    replace PA := Lib.hid (PA.out.below hb)
    replace PB := Lib.hid (PB.out.below hb)
    replace B := bstep B hb
    clear hb D2
    clear c0_0 c0_1 c0_2 c0z c1_0 c1_1 c1_2 c1z
    replace PA := Lib.hid (PA.out.alloc (DtC E' G' H'))
    replace PB := Lib.hid (PB.out.alloc (DtC E' G' H'))
    have PC := Lib.hid (HoldsT.new rfl : HoldsT (w11.alloc (DtC E' G' H')) w11.heap.size E' G' H')
    replace B := ballD1 B (DtC E' G' H')
    go_upto_region 12 with fail
    change Code.wp _ _ _ _ (w11.alloc (DtC E' G' H'))
    generalize w11.alloc (DtC E' G' H') = w12 at *
    obtain ⟨gPC, hg⟩ : ∃ g, g = w11.heap.size := ⟨_, rfl⟩
    rw [← hg] at PC ⊢
    clear hg
    obtain ⟨⟨c0_0, c0_1, c0_2⟩, -, c0z⟩ := PA.out
    obtain ⟨⟨c1_0, c1_1, c1_2⟩, -, c1z⟩ := PB.out
    obtain ⟨⟨c2_0, c2_1, c2_2⟩, -, c2z⟩ := PC.out
    go_wp2_with fail
    refine (OF.out _).mono ?_
    rintro e w13 ⟨rfl, hb⟩
    replace PA := Lib.hid (PA.out.below hb)
    replace PB := Lib.hid (PB.out.below hb)
    replace PC := Lib.hid (PC.out.below hb)
    replace B := bstep B hb
    clear hb OF
    clear c0_0 c0_1 c0_2 c0z c1_0 c1_1 c1_2 c1z c2_0 c2_1 c2_2 c2z
    replace PA := Lib.hid (PA.out.alloc (DtC E' G' H'))
    replace PB := Lib.hid (PB.out.alloc (DtC E' G' H'))
    replace PC := Lib.hid (PC.out.alloc (DtC E' G' H'))
    have PE := Lib.hid (HoldsT.new rfl : HoldsT (w13.alloc (DtC E' G' H')) w13.heap.size E' G' H')
    replace B := ballD1 B (DtC E' G' H')
    go_upto_region 13 with fail
    change Code.wp _ _ _ _ (w13.alloc (DtC E' G' H'))
    generalize w13.alloc (DtC E' G' H') = w14 at *
    obtain ⟨gPE, hg⟩ : ∃ g, g = w13.heap.size := ⟨_, rfl⟩
    rw [← hg] at PE ⊢
    clear hg
    obtain ⟨⟨c2_0, c2_1, c2_2⟩, -, c2z⟩ := PC.out
    obtain ⟨⟨c3_0, c3_1, c3_2⟩, -, c3z⟩ := PE.out
    go_wp2
    go_ret
    exact ⟨rfl, B⟩
end Go.Proofs.YtkkddflclakphaaDoor
