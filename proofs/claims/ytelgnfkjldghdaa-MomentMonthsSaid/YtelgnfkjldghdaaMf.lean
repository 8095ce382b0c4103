/-
  The statement MomentMonths, walked: it answers true.
-/
import Derived.Test.YtelgnfkjldghdaaMe
namespace Go.Proofs.Ytelgnfkjldghdaa
open Go.RowKit

/-- What Months of package civil answers of any day. -/
theorem monthsC_some (y m d n : Int) : ∃ (e f g : Int) (ok : Bool), (∀ w : World, Calls Try.prog 19 #[Dt y m d, .int .i64 n] w (Ret (.tuple #[Dt e f g, .bool ok]) w)) ∧ (ok = false → e = 0 ∧ f = 0 ∧ g = 0) := by
  cases h : mayT y m d
  · exact ⟨0, 0, 0, false, months_no y m d n (.inl h), fun _ => ⟨rfl, rfl, rfl⟩⟩
  have k := may_day.1 h
  by_cases a : n < -9007199254740992
  · exact ⟨0, 0, 0, false, months_no y m d n (.inr (.inl a)), fun _ => ⟨rfl, rfl, rfl⟩⟩
  by_cases b : 9007199254740992 < n
  · exact ⟨0, 0, 0, false, months_no y m d n (.inr (.inr b)), fun _ => ⟨rfl, rfl, rfl⟩⟩
  by_cases c : moY y m n < -999999999 ∨ 999999999 < moY y m n
  · exact ⟨0, 0, 0, false, months_far y m d n k (by omega) (by omega) c, fun _ => ⟨rfl, rfl, rfl⟩⟩
  · exact ⟨_, _, _, true, months_yes y m d n k (by omega) (by omega) (by omega), fun c => by cases c⟩
/-- What Months answers of any moment. -/
theorem monthsN_some (y m d s : Int) (z : Bool) (o n : Int) : ∃ (e f g h : Int) (i : Bool) (j : Int) (ok : Bool), (∀ w : World, Calls Try.prog 18 #[Mo y m d s z o, .int .i64 n] w (Ret (.tuple #[Mo e f g h i j, .bool ok]) w)) ∧ (mayN y m d s z o = false → ok = false ∧ e = 0 ∧ f = 0 ∧ g = 0 ∧ h = 0 ∧ i = false ∧ j = 0) := by
  cases h : mayN y m d s z o
  · exact ⟨0, 0, 0, 0, false, 0, false, monthsN_bad y m d s z o n h, fun _ => ⟨rfl, rfl, rfl, rfl, rfl, rfl, rfl⟩⟩
  obtain ⟨e, f, g, ok, CM, -⟩ := monthsC_some y m d n
  cases ok
  · exact ⟨0, 0, 0, 0, false, 0, false, monthsN_far y m d s z o n h e f g CM, fun c => by cases c⟩
  · exact ⟨_, _, _, _, _, _, true, monthsN_yes y m d s z o n h e f g CM, fun c => by cases c⟩
set_option maxRecDepth 100000 in
set_option maxHeartbeats 4000000 in
theorem momentMonths_walk (ry rm rd rs ro : Int) (rz : Bool) (n xy xm xd xs : Int) (xz : Bool) (xo : Int) (w : World) : Calls Try.prog 5 #[Rw ry rm rd rs ro rz, .int .i64 n, Mo xy xm xd xs xz xo] w (Ret (.bool true) w) := by
  have AW := Lib.hid awake8
  have MK := Lib.hid (make8_any ry rm rd rs ro rz)
  have day := make_day ry rm rd
  have may := makeM_may rs rz ro
  generalize mkD rd (lenI (ry.tmod 1000000000) (mkM rm)) = D at *
  generalize ry.tmod 1000000000 = Y at *
  generalize mkM rm = M at *
  generalize rs % 86400 = S at *
  generalize offM rz ro = O at *
  obtain ⟨e, f, g, ok, CM0, hc0⟩ := monthsC_some Y M D n
  obtain ⟨by_, bm, bd, bs, bz, bo, MA0, hn0, hy0⟩ : ∃ (y m d s : Int) (z : Bool) (o : Int), (∀ w : World, Calls Try.prog 18 #[Mo Y M D S rz O, .int .i64 n] w (Ret (.tuple #[Mo y m d s z o, .bool ok]) w)) ∧ (ok = false → y = 0 ∧ m = 0 ∧ d = 0 ∧ s = 0 ∧ z = false ∧ o = 0) ∧ (ok = true → y = e ∧ m = f ∧ d = g ∧ s = S ∧ z = rz ∧ o = O) := by
    cases ok
    · exact ⟨0, 0, 0, 0, false, 0, monthsN_far Y M D S rz O n (mayN_of day may) e f g CM0, fun _ => ⟨rfl, rfl, rfl, rfl, rfl, rfl⟩, fun c => by cases c⟩
    · exact ⟨e, f, g, S, rz, O, monthsN_yes Y M D S rz O n (mayN_of day may) e f g CM0, (fun c => by cases c), fun _ => ⟨rfl, rfl, rfl, rfl, rfl, rfl⟩⟩
  obtain ⟨cy, cm, cd, cs, cz, co, ok2, MX0, hx0⟩ := monthsN_some xy xm xd xs xz xo n
  have MN0 := mayN_any xy xm xd xs xz xo
  generalize mayN xy xm xd xs xz xo = mm at *
  have CM := Lib.hid CM0
  have MA := Lib.hid MA0
  have MX := Lib.hid MX0
  have MN := Lib.hid MN0
  have hc := Lib.hid hc0
  have hn := Lib.hid hn0
  have hy := Lib.hid hy0
  have hx := Lib.hid hx0
  clear CM0 MA0 MX0 MN0 hc0 hn0 hy0 hx0 day may
  go_enter Try.func5, Try.ntmps5
  go_upto_region 1 with fail
  have PR := Lib.hid (HoldsR.alloc (HoldsR.new rfl) _ : HoldsR ((w.alloc (RwC ry rm rd rs ro rz)).alloc (MoC xy xm xd xs xz xo)) w.heap.size ry rm rd rs ro rz)
  have PX := Lib.hid (HoldsN.new (by simp) : HoldsN ((w.alloc (RwC ry rm rd rs ro rz)).alloc (MoC xy xm xd xs xz xo)) (w.heap.size + 1) xy xm xd xs xz xo)
  have B := ballD1 (ballD1 (Below.refl w.heap.size w) (RwC ry rm rd rs ro rz)) (MoC xy xm xd xs xz xo)
  change Code.wp _ _ _ _ ((w.alloc (RwC ry rm rd rs ro rz)).alloc (MoC xy xm xd xs xz xo))
  generalize ((w.alloc (RwC ry rm rd rs ro rz)).alloc (MoC xy xm xd xs xz xo)) = w0 at *
  obtain ⟨⟨c0_0, c0_1, c0_2, c0_3, c0_4, c0_5⟩, -, c0z⟩ := PR.out
  obtain ⟨⟨c1_0, c1_1, c1_2, c1_3, c1_4, c1_5⟩, -, c1z⟩ := PX.out
  go_wp2_with fail
  refine (AW.out _).mono ?_
  rintro e w1 ⟨rfl, hb⟩
  replace PR := Lib.hid (PR.out.below hb)
  replace PX := Lib.hid (PX.out.below hb)
  replace B := bstep B hb
  clear hb AW
  clear c0_0 c0_1 c0_2 c0_3 c0_4 c0_5 c0z c1_0 c1_1 c1_2 c1_3 c1_4 c1_5 c1z
  obtain ⟨⟨c0_0, c0_1, c0_2, c0_3, c0_4, c0_5⟩, -, c0z⟩ := PR.out
  obtain ⟨⟨c1_0, c1_1, c1_2, c1_3, c1_4, c1_5⟩, -, c1z⟩ := PX.out
  go_wp2_with fail
  refine (MK.out _).mono ?_
  rintro e w2 ⟨rfl, hb⟩
  replace PR := Lib.hid (PR.out.below hb)
  replace PX := Lib.hid (PX.out.below hb)
  replace B := bstep B hb
  clear hb MK
  clear c0_0 c0_1 c0_2 c0_3 c0_4 c0_5 c0z c1_0 c1_1 c1_2 c1_3 c1_4 c1_5 c1z
  replace PR := Lib.hid (PR.out.alloc (MoC Y M D S rz O))
  replace PX := Lib.hid (PX.out.alloc (MoC Y M D S rz O))
  have PA := Lib.hid (HoldsN.new rfl : HoldsN (w2.alloc (MoC Y M D S rz O)) w2.heap.size Y M D S rz O)
  replace B := ballD1 B (MoC Y M D S rz O)
  go_upto_region 4 with fail
  change Code.wp _ _ _ _ (w2.alloc (MoC Y M D S rz O))
  generalize w2.alloc (MoC Y M D S rz O) = w3 at *
  obtain ⟨gPA, hg⟩ : ∃ g, g = w2.heap.size := ⟨_, rfl⟩
  rw [← hg] at PA ⊢
  clear hg
  clear PR
  obtain ⟨⟨c0_0, c0_1, c0_2, c0_3, c0_4, c0_5⟩, -, c0z⟩ := PX.out
  obtain ⟨⟨c1_0, c1_1, c1_2, c1_3, c1_4, c1_5⟩, -, c1z⟩ := PA.out
  go_wp2_with fail
  refine (MA.out _).mono ?_
  rintro e w4 ⟨rfl, hb⟩
  replace PX := Lib.hid (PX.out.below hb)
  replace PA := Lib.hid (PA.out.below hb)
  replace B := bstep B hb
  clear hb MA
  clear c0_0 c0_1 c0_2 c0_3 c0_4 c0_5 c0z c1_0 c1_1 c1_2 c1_3 c1_4 c1_5 c1z
  replace PX := Lib.hid (PX.out.alloc (MoC by_ bm bd bs bz bo))
  replace PA := Lib.hid (PA.out.alloc (MoC by_ bm bd bs bz bo))
  have PB := Lib.hid (HoldsN.new rfl : HoldsN (w4.alloc (MoC by_ bm bd bs bz bo)) w4.heap.size by_ bm bd bs bz bo)
  replace B := ballD1 B (MoC by_ bm bd bs bz bo)
  go_upto_region 5 with fail
  change Code.wp _ _ _ _ (w4.alloc (MoC by_ bm bd bs bz bo))
  generalize w4.alloc (MoC by_ bm bd bs bz bo) = w5 at *
  obtain ⟨gPB, hg⟩ : ∃ g, g = w4.heap.size := ⟨_, rfl⟩
  rw [← hg] at PB ⊢
  clear hg
  obtain ⟨⟨c0_0, c0_1, c0_2, c0_3, c0_4, c0_5⟩, -, c0z⟩ := PX.out
  obtain ⟨⟨c1_0, c1_1, c1_2, c1_3, c1_4, c1_5⟩, -, c1z⟩ := PA.out
  obtain ⟨⟨c2_0, c2_1, c2_2, c2_3, c2_4, c2_5⟩, -, c2z⟩ := PB.out
  go_wp2_with fail
  refine (CM.out _).mono ?_
  rintro e w6 ⟨rfl, hb⟩
  replace PX := Lib.hid (PX.out.below hb)
  replace PA := Lib.hid (PA.out.below hb)
  replace PB := Lib.hid (PB.out.below hb)
  replace B := bstep B hb
  clear hb CM
  clear c0_0 c0_1 c0_2 c0_3 c0_4 c0_5 c0z c1_0 c1_1 c1_2 c1_3 c1_4 c1_5 c1z c2_0 c2_1 c2_2 c2_3 c2_4 c2_5 c2z
  replace PX := Lib.hid (PX.out.alloc (DtC e f g))
  replace PA := Lib.hid (PA.out.alloc (DtC e f g))
  replace PB := Lib.hid (PB.out.alloc (DtC e f g))
  have PC := Lib.hid (HoldsT.new rfl : HoldsT (w6.alloc (DtC e f g)) w6.heap.size e f g)
  replace B := ballD1 B (DtC e f g)
  go_upto_region 6 with fail
  change Code.wp _ _ _ _ (w6.alloc (DtC e f g))
  generalize w6.alloc (DtC e f g) = w7 at *
  obtain ⟨gPC, hg⟩ : ∃ g, g = w6.heap.size := ⟨_, rfl⟩
  rw [← hg] at PC ⊢
  clear hg
  obtain ⟨⟨c0_0, c0_1, c0_2, c0_3, c0_4, c0_5⟩, -, c0z⟩ := PX.out
  obtain ⟨⟨c1_0, c1_1, c1_2, c1_3, c1_4, c1_5⟩, -, c1z⟩ := PA.out
  obtain ⟨⟨c2_0, c2_1, c2_2, c2_3, c2_4, c2_5⟩, -, c2z⟩ := PB.out
  obtain ⟨⟨c3_0, c3_1, c3_2⟩, -, c3z⟩ := PC.out
  go_wp2_with fail
  refine (MX.out _).mono ?_
  rintro e w8 ⟨rfl, hb⟩
  replace PX := Lib.hid (PX.out.below hb)
  replace PA := Lib.hid (PA.out.below hb)
  replace PB := Lib.hid (PB.out.below hb)
  replace PC := Lib.hid (PC.out.below hb)
  replace B := bstep B hb
  clear hb MX
  clear c0_0 c0_1 c0_2 c0_3 c0_4 c0_5 c0z c1_0 c1_1 c1_2 c1_3 c1_4 c1_5 c1z c2_0 c2_1 c2_2 c2_3 c2_4 c2_5 c2z c3_0 c3_1 c3_2 c3z
  replace PX := Lib.hid (PX.out.alloc (MoC cy cm cd cs cz co))
  replace PA := Lib.hid (PA.out.alloc (MoC cy cm cd cs cz co))
  replace PB := Lib.hid (PB.out.alloc (MoC cy cm cd cs cz co))
  replace PC := Lib.hid (PC.out.alloc (MoC cy cm cd cs cz co))
  have PE := Lib.hid (HoldsN.new rfl : HoldsN (w8.alloc (MoC cy cm cd cs cz co)) w8.heap.size cy cm cd cs cz co)
  replace B := ballD1 B (MoC cy cm cd cs cz co)
  go_upto_region 7 with fail
  change Code.wp _ _ _ _ (w8.alloc (MoC cy cm cd cs cz co))
  generalize w8.alloc (MoC cy cm cd cs cz co) = w9 at *
  obtain ⟨gPE, hg⟩ : ∃ g, g = w8.heap.size := ⟨_, rfl⟩
  rw [← hg] at PE ⊢
  clear hg
  obtain ⟨⟨c0_0, c0_1, c0_2, c0_3, c0_4, c0_5⟩, -, c0z⟩ := PX.out
  obtain ⟨⟨c1_0, c1_1, c1_2, c1_3, c1_4, c1_5⟩, -, c1z⟩ := PA.out
  obtain ⟨⟨c2_0, c2_1, c2_2, c2_3, c2_4, c2_5⟩, -, c2z⟩ := PB.out
  obtain ⟨⟨c3_0, c3_1, c3_2⟩, -, c3z⟩ := PC.out
  obtain ⟨⟨c4_0, c4_1, c4_2, c4_3, c4_4, c4_5⟩, -, c4z⟩ := PE.out
  go_wp2_with fail
  refine (MN.out _).mono ?_
  rintro e w10 ⟨rfl, hb⟩
  replace PX := Lib.hid (PX.out.below hb)
  replace PA := Lib.hid (PA.out.below hb)
  replace PB := Lib.hid (PB.out.below hb)
  replace PC := Lib.hid (PC.out.below hb)
  replace PE := Lib.hid (PE.out.below hb)
  replace B := bstep B hb
  clear hb MN
  clear c0_0 c0_1 c0_2 c0_3 c0_4 c0_5 c0z c1_0 c1_1 c1_2 c1_3 c1_4 c1_5 c1z c2_0 c2_1 c2_2 c2_3 c2_4 c2_5 c2z c3_0 c3_1 c3_2 c3z c4_0 c4_1 c4_2 c4_3 c4_4 c4_5 c4z
  cases mm
  · cases ok
    · obtain ⟨rfl, rfl, rfl, rfl, rfl, rfl, rfl⟩ := hx.out (by trivial)
      obtain ⟨rfl, rfl, rfl⟩ := hc.out (by trivial)
      obtain ⟨rfl, rfl, rfl, rfl, rfl, rfl⟩ := hn.out (by trivial)
      clear hx hc hn hy
      obtain ⟨⟨c0_0, c0_1, c0_2, c0_3, c0_4, c0_5⟩, -, c0z⟩ := PX.out
      obtain ⟨⟨c1_0, c1_1, c1_2, c1_3, c1_4, c1_5⟩, -, c1z⟩ := PA.out
      obtain ⟨⟨c2_0, c2_1, c2_2, c2_3, c2_4, c2_5⟩, -, c2z⟩ := PB.out
      obtain ⟨⟨c3_0, c3_1, c3_2⟩, -, c3z⟩ := PC.out
      obtain ⟨⟨c4_0, c4_1, c4_2, c4_3, c4_4, c4_5⟩, -, c4z⟩ := PE.out
      go_wp2
      go_ret
      exact ⟨rfl, B⟩
    · obtain ⟨rfl, rfl, rfl, rfl, rfl, rfl, rfl⟩ := hx.out (by trivial)
      obtain ⟨rfl, rfl, rfl, rfl, rfl, rfl⟩ := hy.out (by trivial)
      clear hx hc hn hy
      obtain ⟨⟨c0_0, c0_1, c0_2, c0_3, c0_4, c0_5⟩, -, c0z⟩ := PX.out
      obtain ⟨⟨c1_0, c1_1, c1_2, c1_3, c1_4, c1_5⟩, -, c1z⟩ := PA.out
      obtain ⟨⟨c2_0, c2_1, c2_2, c2_3, c2_4, c2_5⟩, -, c2z⟩ := PB.out
      obtain ⟨⟨c3_0, c3_1, c3_2⟩, -, c3z⟩ := PC.out
      obtain ⟨⟨c4_0, c4_1, c4_2, c4_3, c4_4, c4_5⟩, -, c4z⟩ := PE.out
      go_wp2
      go_ret
      exact ⟨rfl, B⟩
  · cases ok
    · obtain ⟨rfl, rfl, rfl⟩ := hc.out (by trivial)
      obtain ⟨rfl, rfl, rfl, rfl, rfl, rfl⟩ := hn.out (by trivial)
      clear hx hc hn hy
      obtain ⟨⟨c0_0, c0_1, c0_2, c0_3, c0_4, c0_5⟩, -, c0z⟩ := PX.out
      obtain ⟨⟨c1_0, c1_1, c1_2, c1_3, c1_4, c1_5⟩, -, c1z⟩ := PA.out
      obtain ⟨⟨c2_0, c2_1, c2_2, c2_3, c2_4, c2_5⟩, -, c2z⟩ := PB.out
      obtain ⟨⟨c3_0, c3_1, c3_2⟩, -, c3z⟩ := PC.out
      obtain ⟨⟨c4_0, c4_1, c4_2, c4_3, c4_4, c4_5⟩, -, c4z⟩ := PE.out
      go_wp2
      go_ret
      exact ⟨rfl, B⟩
    · obtain ⟨rfl, rfl, rfl, rfl, rfl, rfl⟩ := hy.out (by trivial)
      clear hx hc hn hy
      obtain ⟨⟨c0_0, c0_1, c0_2, c0_3, c0_4, c0_5⟩, -, c0z⟩ := PX.out
      obtain ⟨⟨c1_0, c1_1, c1_2, c1_3, c1_4, c1_5⟩, -, c1z⟩ := PA.out
      obtain ⟨⟨c2_0, c2_1, c2_2, c2_3, c2_4, c2_5⟩, -, c2z⟩ := PB.out
      obtain ⟨⟨c3_0, c3_1, c3_2⟩, -, c3z⟩ := PC.out
      obtain ⟨⟨c4_0, c4_1, c4_2, c4_3, c4_4, c4_5⟩, -, c4z⟩ := PE.out
      go_wp2
      go_ret
      exact ⟨rfl, B⟩
end Go.Proofs.Ytelgnfkjldghdaa
