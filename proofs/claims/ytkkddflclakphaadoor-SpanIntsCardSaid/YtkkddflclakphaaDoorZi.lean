/-
  The statement SpanInts, walked: it answers true, where the document's examples do.
-/
import Derived.Test.YtkkddflclakphaaDoorZj
namespace Go.Proofs.YtkkddflclakphaaDoor
open Go.RowKit

theorem ratio_int (n m : Int) (hn : n.natAbs ≤ 1073741824) (hm : m.natAbs ≤ 32768) (w : World) (ht : Tab w) : Calls Tryd.prog 20 #[.int .i64 n, .int .i64 m] w (RetDP (DivP (decide (n < 0)) n.natAbs 0 (decide (m < 0)) m.natAbs 0) w) :=
  ratio_yes n m (may_30 hn) (by rw [spB_yes]; omega) w ht
set_option linter.unusedSimpArgs false in
set_option linter.unusedVariables false in
set_option maxRecDepth 100000 in
set_option maxHeartbeats 8000000 in
theorem spanInts_zero (AW : AwS) (a : Int) (a1 : -2147483648 ≤ a) (a2 : a ≤ 2147483647) (b : Int) (hb0 : b = 0) (w : World) (ht : Tab w) : Calls Tryd.prog 5 #[.int .i32 a, .int .i16 b] w (Ret (.bool true) w) := by
  have HT := Lib.hid ht
  have AW' := Lib.hid AW
  obtain ⟨n, hn⟩ : ∃ n : Int, n = a / 2 := ⟨_, rfl⟩
  have n1 : n.natAbs ≤ 1073741824 := by omega
  have s1 : a / 2 = n := hn.symm
  have u0 : I64 a := by unfold I64; omega
  have u1 : I64 b := by unfold I64; omega
  have u2 : I64 n := by unfold I64; omega
  have f0 := u0.wrap
  have f1 := u1.wrap
  have f2 := u2.wrap
  have g0 := u0.wrap'
  have g1 := u1.wrap'
  have g2 := u2.wrap'
  have IM0 := int_any b u1
  have TI0 := times_int n b n1 (by omega)
  have OV0 := over_nought n n1
  have RA0 := ratio_int n b n1 (by omega)
  have NO := Lib.hid (show ∀ o, DivP (decide (n < 0)) n.natAbs 0 (decide (b < 0)) b.natAbs 0 o → o = none from by
    intro o D
    subst hb0
    rcases D with ⟨_, k⟩ | ⟨z, _⟩ | ⟨z, _⟩
    · exact k
    · exact absurd rfl z
    · exact absurd rfl z)
  subst hb0
  rw [Int.mul_zero] at TI0
  have m1 : IntKind.i64.wrap (n * 0) = 0 := by rw [Int.mul_zero]; exact I64.wrap (by unfold I64; omega)
  have m2 : wrap64 (n * 0) = 0 := by rw [Int.mul_zero]; exact I64.wrap' (by unfold I64; omega)
  have IM := Lib.hid IM0
  have TI := Lib.hid TI0
  have OV := Lib.hid OV0
  have RA := Lib.hid RA0
  clear IM0 TI0 OV0 RA0 ht AW n1 hn u0 u1 u2 a1 a2
  go_enter Tryd.func5, Tryd.ntmps5
  go_wp2_with fail
  refine (AW'.out _ (HT.out.below (by go_grown))).mono ?_
  rintro e w0 ⟨rfl, hb⟩
  have B : Below w.heap.size w w0 := bstep (by go_grown) hb
  clear hb AW'
  go_wp2_with fail
  refine (IM.out _).mono ?_
  rintro e w1 ⟨rfl, hb⟩
  replace B := bstep B hb
  clear hb
  go_wp2_with fail
  refine (TI.out _ (HT.out.below B)).mono ?_
  rintro e w2 ⟨rfl, hb⟩
  replace B := bstep B hb
  clear hb TI
  go_wp2_with fail
  refine (IM.out _).mono ?_
  rintro e w3 ⟨rfl, hb⟩
  replace B := bstep B hb
  clear hb
  go_wp2_with fail
  refine (OV.out _ (HT.out.below B)).mono ?_
  rintro e w4 ⟨rfl, hb⟩
  replace B := bstep B hb
  clear hb OV
  go_wp2_with fail
  refine (RA.out _ (HT.out.below B)).mono ?_
  rintro e w5 ⟨dq, DQ, rn, rh, rl, rx, rok, RN, rfl, hb⟩
  replace B := bstep B hb
  clear hb RA
  obtain rfl : dq = none := NO.out _ DQ
  obtain ⟨-, rfl, rfl, rfl, rfl, rfl⟩ := RN
  have PR := Lib.hid (HoldsD.new rfl : HoldsD (w5.alloc (DvC false 0 0 0)) w5.heap.size false 0 0 0)
  replace B := ballD1 B (DvC false 0 0 0)
  go_upto_region 9 with fail
  change Code.wp _ _ _ _ (w5.alloc (DvC false 0 0 0))
  generalize w5.alloc (DvC false 0 0 0) = w6 at *
  obtain ⟨gPR, hg⟩ : ∃ g, g = w5.heap.size := ⟨_, rfl⟩
  rw [← hg] at PR ⊢
  clear hg
  go_wp2
  go_ret
  exact ⟨rfl, B⟩
set_option linter.unusedSimpArgs false in
set_option linter.unusedVariables false in
set_option maxRecDepth 100000 in
set_option maxHeartbeats 8000000 in
theorem spanInts_some (AW : AwS) (a : Int) (a1 : -2147483648 ≤ a) (a2 : a ≤ 2147483647) (b : Int) (b1 : -32768 ≤ b) (b2 : b ≤ 32767) (hb0 : b ≠ 0) (w : World) (ht : Tab w) : Calls Tryd.prog 5 #[.int .i32 a, .int .i16 b] w (Ret (.bool true) w) := by
  have HT := Lib.hid ht
  have AW' := Lib.hid AW
  obtain ⟨n, hn⟩ : ∃ n : Int, n = a / 2 := ⟨_, rfl⟩
  have n1 : n.natAbs ≤ 1073741824 := by omega
  have s1 : a / 2 = n := hn.symm
  have u0 : I64 a := by unfold I64; omega
  have u1 : I64 b := by unfold I64; omega
  have u2 : I64 n := by unfold I64; omega
  have f0 := u0.wrap
  have f1 := u1.wrap
  have f2 := u2.wrap
  have g0 := u0.wrap'
  have g1 := u1.wrap'
  have g2 := u2.wrap'
  have m0 : b.natAbs ≤ 32768 := by omega
  have IM0 := int_any b u1
  have IN := Lib.hid (int_any n u2)
  have TI0 := times_int n b n1 m0
  have OV0 := over_int n b n1 m0 hb0
  have RA0 := ratio_int n b n1 m0
  have DV0 := divD_any (decide (n < 0)) 0 n.natAbs 0 (decide (b < 0)) 0 b.natAbs 0 (ww1 (abs_lt u2)) (ww1 (abs_lt u1)) (abs_num u2) (abs_num u1)
  rw [nv01, nv01] at DV0
  have SO0 : ∀ o, DivP (decide (n < 0)) n.natAbs 0 (decide (b < 0)) b.natAbs 0 o → ∃ s c x, o = some (s, c, x) := by
    intro o D
    have q := (quot_down n1 m0 hb0 D).1
    match o with
    | none => cases q
    | some (s, c, x) => exact ⟨s, c, x, rfl⟩
  have p1 : I64 (n * b) := by
    have : n.natAbs * b.natAbs ≤ 1073741824 * 32768 := Nat.mul_le_mul n1 m0
    rw [← Int.natAbs_mul] at this
    unfold I64
    omega
  have p2 : I64 (n.tdiv b) := by
    have : n.natAbs / b.natAbs ≤ n.natAbs := Nat.div_le_self _ _
    rw [tdiv_abs]
    generalize n.natAbs / b.natAbs = q at *
    unfold I64
    split <;> omega
  have f3 := p1.wrap
  have f4 := p2.wrap
  have g3 := p1.wrap'
  have g4 := p2.wrap'
  have z0 : (b == 0) = false := by simpa using hb0
  obtain ⟨DP, hDP⟩ : ∃ DP, DP = DivP (decide (n < 0)) n.natAbs 0 (decide (b < 0)) b.natAbs 0 := ⟨_, rfl⟩
  have det : ∀ o o', DP o → DP o' → o = o' := by rw [hDP]; exact fun o o' => DivP_det
  rw [← hDP] at DV0 RA0 SO0
  have DT := Lib.hid det
  have SO := Lib.hid SO0
  have IM := Lib.hid IM0
  have TI := Lib.hid TI0
  have OV := Lib.hid OV0
  have RA := Lib.hid RA0
  have DV := Lib.hid DV0
  clear IM0 TI0 OV0 RA0 DV0 SO0 det hDP ht AW n1 m0 hn u0 u1 u2 a1 a2 b1 b2 p1 p2
  go_enter Tryd.func5, Tryd.ntmps5
  go_wp2_with fail
  refine (AW'.out _ (HT.out.below (by go_grown))).mono ?_
  rintro e w0 ⟨rfl, hb⟩
  have B : Below w.heap.size w w0 := bstep (by go_grown) hb
  clear hb AW'
  go_wp2_with fail
  refine (IM.out _).mono ?_
  rintro e w1 ⟨rfl, hb⟩
  replace B := bstep B hb
  clear hb
  go_wp2_with fail
  refine (TI.out _ (HT.out.below B)).mono ?_
  rintro e w2 ⟨rfl, hb⟩
  replace B := bstep B hb
  clear hb TI
  go_wp2_with fail
  refine (IM.out _).mono ?_
  rintro e w3 ⟨rfl, hb⟩
  replace B := bstep B hb
  clear hb
  go_wp2_with fail
  refine (OV.out _ (HT.out.below B)).mono ?_
  rintro e w4 ⟨rfl, hb⟩
  replace B := bstep B hb
  clear hb OV
  go_wp2_with fail
  refine (RA.out _ (HT.out.below B)).mono ?_
  rintro e w5 ⟨dq, DQ, rn, rh, rl, rx, rok, RN, rfl, hb⟩
  replace B := bstep B hb
  clear hb RA
  have PR := Lib.hid (HoldsD.new rfl : HoldsD (w5.alloc (DvC rn rh rl rx)) w5.heap.size rn rh rl rx)
  replace B := ballD1 B (DvC rn rh rl rx)
  go_upto_region 9 with fail
  change Code.wp _ _ _ _ (w5.alloc (DvC rn rh rl rx))
  generalize w5.alloc (DvC rn rh rl rx) = w6 at *
  obtain ⟨gPR, hg⟩ : ∃ g, g = w5.heap.size := ⟨_, rfl⟩
  rw [← hg] at PR ⊢
  clear hg
  obtain ⟨⟨c0_0, c0_1, c0_2, c0_3⟩, -, c0z⟩ := PR.out
  go_wp2_with fail
  refine (IN.out _).mono ?_
  rintro e w7 ⟨rfl, hb⟩
  replace PR := Lib.hid (PR.out.below hb)
  replace B := bstep B hb
  clear hb IN
  clear c0_0 c0_1 c0_2 c0_3 c0z
  obtain ⟨⟨c0_0, c0_1, c0_2, c0_3⟩, -, c0z⟩ := PR.out
  go_wp2_with fail
  refine (IM.out _).mono ?_
  rintro e w8 ⟨rfl, hb⟩
  replace PR := Lib.hid (PR.out.below hb)
  replace B := bstep B hb
  clear hb IM
  clear c0_0 c0_1 c0_2 c0_3 c0z
  obtain ⟨⟨c0_0, c0_1, c0_2, c0_3⟩, -, c0z⟩ := PR.out
  go_wp2_with fail
  refine (DV.out _ (HT.out.below B)).mono ?_
  rintro e w9 ⟨dq2, DQ2, kn, kh, kl, kx, kok, KN, rfl, hb⟩
  replace PR := Lib.hid (PR.out.below hb)
  replace B := bstep B hb
  clear hb DV
  clear c0_0 c0_1 c0_2 c0_3 c0z
  obtain rfl : dq2 = dq := DT.out _ _ DQ2 DQ
  obtain ⟨rfl, rfl, rfl, rfl, rfl⟩ := numO_inj KN RN
  obtain ⟨s, c, x, rfl⟩ := SO.out _ DQ
  obtain ⟨-, rfl, -, -, -⟩ := RN
  clear DQ DQ2 KN DT SO
  replace PR := Lib.hid (PR.out.alloc (DvC kn kh kl kx))
  have PX := Lib.hid (HoldsD.new rfl : HoldsD (w9.alloc (DvC kn kh kl kx)) w9.heap.size kn kh kl kx)
  replace B := ballD1 B (DvC kn kh kl kx)
  go_upto_region 12 with fail
  change Code.wp _ _ _ _ (w9.alloc (DvC kn kh kl kx))
  generalize w9.alloc (DvC kn kh kl kx) = w10 at *
  obtain ⟨gPX, hg⟩ : ∃ g, g = w9.heap.size := ⟨_, rfl⟩
  rw [← hg] at PX ⊢
  clear hg
  obtain ⟨⟨c0_0, c0_1, c0_2, c0_3⟩, -, c0z⟩ := PR.out
  obtain ⟨⟨c1_0, c1_1, c1_2, c1_3⟩, -, c1z⟩ := PX.out
  go_wp2
  go_ret
  exact ⟨rfl, B⟩
theorem spanInts_walk (AW : AwS) (a b : Int) (a1 : -2147483648 ≤ a) (a2 : a ≤ 2147483647) (b1 : -32768 ≤ b) (b2 : b ≤ 32767) (w : World) (ht : Tab w) : Calls Tryd.prog 5 #[.int .i32 a, .int .i16 b] w (Ret (.bool true) w) := by
  by_cases h : b = 0
  · exact spanInts_zero AW a a1 a2 b h w ht
  · exact spanInts_some AW a a1 a2 b b1 b2 h w ht
end Go.Proofs.YtkkddflclakphaaDoor
