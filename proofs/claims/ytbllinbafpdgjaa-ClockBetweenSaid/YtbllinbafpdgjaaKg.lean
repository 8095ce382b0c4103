/-
  The statement ClockBetween, walked: it answers true.
-/
import Derived.Test.YtbllinbafpdgjaaKc
namespace Go.Proofs.Ytbllinbafpdgjaa
open Go.RowKit

theorem ordI_cases (a b : Int) : (ordI a b = -1 ∧ a < b) ∨ (ordI a b = 0 ∧ a = b) ∨ (ordI a b = 1 ∧ b < a) := by
  unfold ordI
  split
  · exact .inl ⟨rfl, by assumption⟩
  · split
    · exact .inr (.inr ⟨rfl, by assumption⟩)
    · exact .inr (.inl ⟨rfl, by omega⟩)
theorem wrapped {a b : Int} (h : a = b) (k : I64 b) : wrap64 a = b ∧ IntKind.i64.wrap a = b := by subst h; exact ⟨k.wrap', k.wrap⟩
set_option maxRecDepth 100000 in
set_option maxHeartbeats 4000000 in
theorem clockBetween_walk (s : Int) (z0 : Bool) (o0 x y zz : Int) (z : Bool) (o : Int) (w : World) : Calls Try.prog 6 #[Tm s z0 o0, .int .i64 x, .int .i64 y, .int .i64 zz, .bool z, .int .i64 o] w (Ret (.bool true) w) := by
  have AW := Lib.hid awake7
  have MA := Lib.hid (makeM_any s true o0)
  have MB := Lib.hid (makeM_any x false 0)
  have MC := Lib.hid (makeM_any s false 0)
  have MD := Lib.hid (makeM_any y true o)
  have BN := Lib.hid (between_no (s % 86400) true (offM true o0) (x % 86400) false (offM false 0) (by simp))
  have CN0 := cmpM_of (s % 86400) false (offM false 0) (y % 86400) true (offM true o) 0 false (between_no _ _ _ _ _ _ (by simp))
  rw [show ordI 0 0 = 0 from rfl] at CN0
  have CN := Lib.hid CN0
  have MP := Lib.hid (makeM_any x z o)
  have MQ := Lib.hid (makeM_any y z x)
  have MR := Lib.hid (makeM_any zz z y)
  have p1 := makeM_may x z o
  have p2 := makeM_may y z x
  have p3 := makeM_may zz z y
  generalize x % 86400 = X at *
  generalize y % 86400 = Y at *
  generalize zz % 86400 = Z at *
  generalize s % 86400 = S at *
  generalize offM z o = P at *
  generalize offM z x = Q at *
  generalize offM z y = R at *
  generalize offM false 0 = O1 at *
  generalize offM true o = O2 at *
  generalize offM true o0 = O3 at *
  have r1 := may_sec p1
  have r2 := may_sec p2
  have r3 := may_sec p3
  have q1 := may_off p1
  have q2 := may_off p2
  have q3 := may_off p3
  have B1 := Lib.hid (between_yes X z P Y Q p1 p2)
  have B2 := Lib.hid (between_yes Y z Q X P p2 p1)
  have B3' := Lib.hid (between_yes Y z Q Z R p2 p3)
  have B4 := Lib.hid (between_yes X z P Z R p1 p3)
  have CC := Lib.hid (cmpM_of X z P Y z Q _ true (between_yes X z P Y Q p1 p2))
  obtain ⟨f1, f2⟩ := wrapped (a := Y - Q) rfl (by unfold I64; omega)
  obtain ⟨f3, f4⟩ := wrapped (a := X - P) rfl (by unfold I64; omega)
  obtain ⟨f5, f6⟩ := wrapped (a := (Y - Q) - (X - P)) rfl (by unfold I64; omega)
  obtain ⟨f7, f8⟩ := wrapped (a := -((X - P) - (Y - Q))) (b := (Y - Q) - (X - P)) (by omega) (by unfold I64; omega)
  obtain ⟨f9, fa⟩ := wrapped (a := ((Y - Q) - (X - P)) + ((Z - R) - (Y - Q))) (b := (Z - R) - (X - P)) (by omega) (by unfold I64; omega)
  have h5 : wrap64 (wrap64 (Y - Q) - wrap64 (X - P)) = (Y - Q) - (X - P) := by rw [f1, f3, f5]
  have h6 : IntKind.i64.wrap (IntKind.i64.wrap (Y - Q) - IntKind.i64.wrap (X - P)) = (Y - Q) - (X - P) := by rw [f2, f4, f6]
  have OC := ordI_cases 0 ((Y - Q) - (X - P))
  clear f1 f2 f3 f4 f5 f6
  generalize (X - P) - (Y - Q) = m at *
  generalize (Z - R) - (Y - Q) = k at *
  generalize (Z - R) - (X - P) = l at *
  generalize (Y - Q) - (X - P) = n at *
  generalize ordI 0 n = c at *
  clear CN0 p1 p2 p3 r1 r2 r3 q1 q2 q3
  go_enter Try.func6, Try.ntmps6
  go_upto_region 1 with fail
  have PT := Lib.hid (HoldsM.new rfl : HoldsM (w.alloc (TmC s z0 o0)) w.heap.size s z0 o0)
  have B : Below w.heap.size w (w.alloc (TmC s z0 o0)) := by go_grown
  change Code.wp _ _ _ _ (w.alloc (TmC s z0 o0))
  generalize w.alloc (TmC s z0 o0) = w0 at *
  obtain ⟨gt, hg⟩ : ∃ g, g = w.heap.size := ⟨_, rfl⟩
  rw [← hg] at PT ⊢
  clear hg
  obtain ⟨⟨c01, c02, c03⟩, -, c09⟩ := PT.out
  go_wp2_with fail
  refine (AW.out _).mono ?_
  rintro e w1 ⟨rfl, hb⟩
  replace PT := Lib.hid (PT.out.below hb)
  replace B := bstep B hb
  clear hb AW
  clear c01 c02 c03 c09
  obtain ⟨⟨c01, c02, c03⟩, -, c09⟩ := PT.out
  go_wp2_with fail
  refine (MA.out _).mono ?_
  rintro e w2 ⟨rfl, hb⟩
  replace PT := Lib.hid (PT.out.below hb)
  replace B := bstep B hb
  clear hb MA
  clear c01 c02 c03 c09
  obtain ⟨⟨c01, c02, c03⟩, -, c09⟩ := PT.out
  go_wp2_with fail
  refine (MB.out _).mono ?_
  rintro e w3 ⟨rfl, hb⟩
  replace PT := Lib.hid (PT.out.below hb)
  replace B := bstep B hb
  clear hb MB
  clear c01 c02 c03 c09
  obtain ⟨⟨c01, c02, c03⟩, -, c09⟩ := PT.out
  go_wp2_with fail
  refine (BN.out _).mono ?_
  rintro e w4 ⟨rfl, hb⟩
  replace PT := Lib.hid (PT.out.below hb)
  replace B := bstep B hb
  clear hb BN
  clear c01 c02 c03 c09
  obtain ⟨⟨c01, c02, c03⟩, -, c09⟩ := PT.out
  go_wp2_with fail
  refine (MC.out _).mono ?_
  rintro e w5 ⟨rfl, hb⟩
  replace PT := Lib.hid (PT.out.below hb)
  replace B := bstep B hb
  clear hb MC
  clear c01 c02 c03 c09
  obtain ⟨⟨c01, c02, c03⟩, -, c09⟩ := PT.out
  go_wp2_with fail
  refine (MD.out _).mono ?_
  rintro e w6 ⟨rfl, hb⟩
  replace PT := Lib.hid (PT.out.below hb)
  replace B := bstep B hb
  clear hb MD
  clear c01 c02 c03 c09
  obtain ⟨⟨c01, c02, c03⟩, -, c09⟩ := PT.out
  go_wp2_with fail
  refine (CN.out _).mono ?_
  rintro e w7 ⟨rfl, hb⟩
  replace PT := Lib.hid (PT.out.below hb)
  replace B := bstep B hb
  clear hb CN
  clear c01 c02 c03 c09
  clear PT
  go_wp2_with fail
  refine (MP.out _).mono ?_
  rintro e w8 ⟨rfl, hb⟩
  replace B := bstep B hb
  clear hb MP
  go_wp2_with fail
  refine (MQ.out _).mono ?_
  rintro e w9 ⟨rfl, hb⟩
  replace B := bstep B hb
  clear hb MQ
  go_wp2_with fail
  refine (MR.out _).mono ?_
  rintro e w10 ⟨rfl, hb⟩
  replace B := bstep B hb
  clear hb MR
  go_upto_region 6 with fail
  have PP := Lib.hid (HoldsM.alloc (HoldsM.alloc (HoldsM.new rfl) _) _ : HoldsM (((w10.alloc (TmC X z P)).alloc (TmC Y z Q)).alloc (TmC Z z R)) w10.heap.size X z P)
  have PQ := Lib.hid (HoldsM.alloc (HoldsM.new (by simp)) _ : HoldsM (((w10.alloc (TmC X z P)).alloc (TmC Y z Q)).alloc (TmC Z z R)) (w10.heap.size + 1) Y z Q)
  have PR := Lib.hid (HoldsM.new (by simp) : HoldsM (((w10.alloc (TmC X z P)).alloc (TmC Y z Q)).alloc (TmC Z z R)) (w10.heap.size + 1 + 1) Z z R)
  replace B := ballD1 (ballD1 (ballD1 B (TmC X z P)) (TmC Y z Q)) (TmC Z z R)
  change Code.wp _ _ _ _ (((w10.alloc (TmC X z P)).alloc (TmC Y z Q)).alloc (TmC Z z R))
  generalize (((w10.alloc (TmC X z P)).alloc (TmC Y z Q)).alloc (TmC Z z R)) = w11 at *
  generalize w10.heap.size = g at *
  obtain ⟨⟨c01, c02, c03⟩, -, c09⟩ := PP.out
  obtain ⟨⟨c11, c12, c13⟩, -, c19⟩ := PQ.out
  obtain ⟨⟨c21, c22, c23⟩, -, c29⟩ := PR.out
  go_wp2_with fail
  refine (B1.out _).mono ?_
  rintro e w12 ⟨rfl, hb⟩
  replace PP := Lib.hid (PP.out.below hb)
  replace PQ := Lib.hid (PQ.out.below hb)
  replace PR := Lib.hid (PR.out.below hb)
  replace B := bstep B hb
  clear hb B1
  clear c01 c02 c03 c09 c11 c12 c13 c19 c21 c22 c23 c29
  obtain ⟨⟨c01, c02, c03⟩, -, c09⟩ := PP.out
  obtain ⟨⟨c11, c12, c13⟩, -, c19⟩ := PQ.out
  obtain ⟨⟨c21, c22, c23⟩, -, c29⟩ := PR.out
  go_wp2_with fail
  refine (B2.out _).mono ?_
  rintro e w13 ⟨rfl, hb⟩
  replace PP := Lib.hid (PP.out.below hb)
  replace PQ := Lib.hid (PQ.out.below hb)
  replace PR := Lib.hid (PR.out.below hb)
  replace B := bstep B hb
  clear hb B2
  clear c01 c02 c03 c09 c11 c12 c13 c19 c21 c22 c23 c29
  obtain ⟨⟨c01, c02, c03⟩, -, c09⟩ := PP.out
  obtain ⟨⟨c11, c12, c13⟩, -, c19⟩ := PQ.out
  obtain ⟨⟨c21, c22, c23⟩, -, c29⟩ := PR.out
  go_wp2_with fail
  refine (B3'.out _).mono ?_
  rintro e w14 ⟨rfl, hb⟩
  replace PP := Lib.hid (PP.out.below hb)
  replace PQ := Lib.hid (PQ.out.below hb)
  replace PR := Lib.hid (PR.out.below hb)
  replace B := bstep B hb
  clear hb B3'
  clear c01 c02 c03 c09 c11 c12 c13 c19 c21 c22 c23 c29
  obtain ⟨⟨c01, c02, c03⟩, -, c09⟩ := PP.out
  obtain ⟨⟨c11, c12, c13⟩, -, c19⟩ := PQ.out
  obtain ⟨⟨c21, c22, c23⟩, -, c29⟩ := PR.out
  go_wp2_with fail
  refine (B4.out _).mono ?_
  rintro e w15 ⟨rfl, hb⟩
  replace PP := Lib.hid (PP.out.below hb)
  replace PQ := Lib.hid (PQ.out.below hb)
  replace PR := Lib.hid (PR.out.below hb)
  replace B := bstep B hb
  clear hb B4
  clear c01 c02 c03 c09 c11 c12 c13 c19 c21 c22 c23 c29
  obtain ⟨⟨c01, c02, c03⟩, -, c09⟩ := PP.out
  obtain ⟨⟨c11, c12, c13⟩, -, c19⟩ := PQ.out
  obtain ⟨⟨c21, c22, c23⟩, -, c29⟩ := PR.out
  go_wp2_with fail
  refine (CC.out _).mono ?_
  rintro e w16 ⟨rfl, hb⟩
  replace PP := Lib.hid (PP.out.below hb)
  replace PQ := Lib.hid (PQ.out.below hb)
  replace PR := Lib.hid (PR.out.below hb)
  replace B := bstep B hb
  clear hb CC
  clear c01 c02 c03 c09 c11 c12 c13 c19 c21 c22 c23 c29
  obtain ⟨⟨c01, c02, c03⟩, -, c09⟩ := PP.out
  obtain ⟨⟨c11, c12, c13⟩, -, c19⟩ := PQ.out
  obtain ⟨⟨c21, c22, c23⟩, -, c29⟩ := PR.out
  rcases OC with ⟨rfl, h⟩ | ⟨rfl, h⟩ | ⟨rfl, h⟩
  · have t1 : decide (0 < n) = true := decide_eq_true h
    have t2 : decide (n < 0) = false := decide_eq_false (by omega)
    clear h
    go_wp2
    go_ret
    exact ⟨congrArg Ending.returned (by simp [*]), B⟩
  · have t1 : decide (0 < n) = false := decide_eq_false (by omega)
    have t2 : decide (n < 0) = false := decide_eq_false (by omega)
    clear h
    go_wp2
    go_ret
    exact ⟨congrArg Ending.returned (by simp [*]), B⟩
  · have t1 : decide (0 < n) = false := decide_eq_false (by omega)
    have t2 : decide (n < 0) = true := decide_eq_true h
    clear h
    go_wp2
    go_ret
    exact ⟨congrArg Ending.returned (by simp [*]), B⟩
end Go.Proofs.Ytbllinbafpdgjaa
