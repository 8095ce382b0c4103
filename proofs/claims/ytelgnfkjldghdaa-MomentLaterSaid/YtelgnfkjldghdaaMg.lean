/-
  The statement MomentLater, walked: it answers true.
-/
import Derived.Test.YtelgnfkjldghdaaMe
namespace Go.Proofs.Ytelgnfkjldghdaa
open Go.RowKit

theorem yst_high : yst 900000001 ≤ 328719000000 := by decide
theorem yst_low : -328719000000 ≤ yst (-900000000) := by decide
/-- What Later answers of a moment: none, or the one whose instant is so many later, which leads back. -/
theorem laterN_case (y m d s : Int) (z : Bool) (o n : Int) (h : Day y m d) (k : mayM s z o = true) :
    (∀ w : World, Calls Try.prog 16 #[Mo y m d s z o, .int .i64 n] w (Ret (.tuple #[Mo 0 0 0 0 false 0, .bool false]) w)) ∧ (n < -9007199254740992 ∨ 9007199254740992 < n ∨ 900000000 < y ∨ y < -900000000 ∨ 1125899906842624 < n ∨ n < -1125899906842624) ∨
    ∃ Y M D S, Day Y M D ∧ mayM S z o = true ∧ (-9007199254740992 ≤ n ∧ n ≤ 9007199254740992) ∧ (∀ w : World, Calls Try.prog 16 #[Mo y m d s z o, .int .i64 n] w (Ret (.tuple #[Mo Y M D S z o, .bool true]) w)) ∧ instI Y M D S o = instI y m d s o + n ∧ ∀ w : World, Calls Try.prog 16 #[Mo Y M D S z o, .int .i64 (-n)] w (Ret (.tuple #[Mo y m d s z o, .bool true]) w) := by
  by_cases a : n < -9007199254740992
  · exact .inl ⟨laterN_bad y m d s z o n (.inr (.inl a)), .inl a⟩
  by_cases b : 9007199254740992 < n
  · exact .inl ⟨laterN_bad y m d s z o n (.inr (.inr b)), .inr (.inl b)⟩
  have ri := inst_range h k
  have rs := may_sec k
  have ro := may_off k
  have hn : -9007199254740992 ≤ n ∧ n ≤ 9007199254740992 := by omega
  have hi : -72057594037927936 ≤ instI y m d s o + n ∧ instI y m d s o + n ≤ 72057594037927936 := by omega
  have far : ((instI y m d s o + n + o) / 86400 < -365243219162 ∨ 365241780472 ≤ (instI y m d s o + n + o) / 86400) → (900000000 < y ∨ y < -900000000 ∨ 1125899906842624 < n ∨ n < -1125899906842624) := by
    intro c
    by_cases p : 900000000 < y
    · exact .inl p
    by_cases q : y < -900000000
    · exact .inr (.inl q)
    have yr := num_year h
    have h1 := yst_mono (show y + 1 ≤ 900000001 by omega)
    have h2 := yst_mono (show -900000000 ≤ y by omega)
    have h3 := yst_high
    have h4 := yst_low
    generalize yst 900000001 = Q at *
    generalize yst (-900000000) = R at *
    unfold instI at c
    omega
  by_cases c : (instI y m d s o + n + o) / 86400 < -365243219162
  · exact .inl ⟨laterN_of y m d s z o n h k hn _ _ _ _ _ _ false (ofN_far _ s z o k hi (.inl c)), .inr (.inr (far (.inl c)))⟩
  by_cases e : 365241780472 ≤ (instI y m d s o + n + o) / 86400
  · exact .inl ⟨laterN_of y m d s z o n h k hn _ _ _ _ _ _ false (ofN_far _ s z o k hi (.inr e)), .inr (.inr (far (.inr e)))⟩
  obtain ⟨Y, M, D, h', e'⟩ := num_sur ((instI y m d s o + n + o) / 86400) (by omega) (by omega)
  have k' : mayM ((instI y m d s o + n + o) % 86400) z o = true := by
    have h1 := Int.emod_nonneg (instI y m d s o + n + o) (show (86400 : Int) ≠ 0 by decide)
    have h2 := Int.emod_lt_of_pos (instI y m d s o + n + o) (show (0 : Int) < 86400 by decide)
    unfold mayM at k ⊢
    simp only [Bool.and_eq_true, decide_eq_true_eq] at k ⊢
    exact ⟨⟨⟨⟨by omega, by omega⟩, k.1.1.2⟩, k.1.2⟩, k.2⟩
  have inst : instI Y M D ((instI y m d s o + n + o) % 86400) o = instI y m d s o + n := by
    rw [show instI Y M D ((instI y m d s o + n + o) % 86400) o = numI Y M D * 86400 + (instI y m d s o + n + o) % 86400 - o from rfl, e']
    have := Int.emod_add_mul_ediv (instI y m d s o + n + o) 86400
    omega
  refine .inr ⟨Y, M, D, _, h', k', hn, laterN_of y m d s z o n h k hn _ _ _ _ _ _ true (ofN_yes _ s z o Y M D k hi h' e'), inst, ?_⟩
  have bk := inst_back h k
  have OF := ofN_yes (instI y m d s o) ((instI y m d s o + n + o) % 86400) z o y m d k' (by omega) h bk.1.symm
  rw [bk.2] at OF
  refine laterN_of Y M D _ z o (-n) h' k' (by omega) _ _ _ _ _ _ true ?_
  rw [inst, show instI y m d s o + n + -n = instI y m d s o by omega]
  exact OF
/-- What Later answers of any moment. -/
theorem laterN_some (y m d s : Int) (z : Bool) (o n : Int) : ∃ (e f g h : Int) (i : Bool) (j : Int) (ok : Bool), (∀ w : World, Calls Try.prog 16 #[Mo y m d s z o, .int .i64 n] w (Ret (.tuple #[Mo e f g h i j, .bool ok]) w)) ∧ (ok = true → mayN y m d s z o = true) := by
  cases h : mayN y m d s z o
  · exact ⟨0, 0, 0, 0, false, 0, false, laterN_bad y m d s z o n (.inl h), fun c => by cases c⟩
  rcases laterN_case y m d s z o n (mayN_true h).1 (mayN_true h).2 with ⟨c, -⟩ | ⟨Y, M, D, S, -, -, -, c, -, -⟩
  · exact ⟨_, _, _, _, _, _, _, c, fun _ => rfl⟩
  · exact ⟨_, _, _, _, _, _, _, c, fun _ => rfl⟩
set_option maxRecDepth 100000 in
set_option maxHeartbeats 4000000 in
theorem later_none (Y M D S O ry rm rd rs ro : Int) (rz : Bool) (n xy xm xd xs : Int) (xz : Bool) (xo : Int)
    (MK0 : ∀ w : World, Calls Try.prog 9 #[Rw ry rm rd rs ro rz] w (Ret (Mo Y M D S rz O) w)) (L10 : ∀ w : World, Calls Try.prog 16 #[Mo Y M D S rz O, .int .i64 n] w (Ret (.tuple #[Mo 0 0 0 0 false 0, .bool false]) w)) (q1 q2 q3 q4 q5 q6 : Bool) (e1 : decide (n < -9007199254740992) = q1) (e2 : decide (9007199254740992 < n) = q2) (e3 : decide (900000000 < Y) = q3) (e4 : decide (Y < -900000000) = q4) (e5 : decide (1125899906842624 < n) = q5) (e6 : decide (n < -1125899906842624) = q6) (any : (q1 || q2 || q3 || q4 || q5 || q6) = true) (w : World) : Calls Try.prog 4 #[Rw ry rm rd rs ro rz, .int .i64 n, Mo xy xm xd xs xz xo] w (Ret (.bool true) w) := by
  have AW := Lib.hid awake8
  have MK := Lib.hid MK0
  have L1 := Lib.hid L10
  clear MK0 L10
  go_enter Try.func4, Try.ntmps4
  go_upto_region 1 with fail
  have PR := Lib.hid (HoldsR.alloc (HoldsR.new rfl) _ : HoldsR ((w.alloc (RwC ry rm rd rs ro rz)).alloc (MoC xy xm xd xs xz xo)) w.heap.size ry rm rd rs ro rz)
  have PX := Lib.hid (HoldsN.new (by simp) : HoldsN ((w.alloc (RwC ry rm rd rs ro rz)).alloc (MoC xy xm xd xs xz xo)) (w.heap.size + 1) xy xm xd xs xz xo)
  have B := ballD1 (ballD1 (Below.refl w.heap.size w) (RwC ry rm rd rs ro rz)) (MoC xy xm xd xs xz xo)
  change Code.wp _ _ _ _ ((w.alloc (RwC ry rm rd rs ro rz)).alloc (MoC xy xm xd xs xz xo))
  generalize ((w.alloc (RwC ry rm rd rs ro rz)).alloc (MoC xy xm xd xs xz xo)) = w0 at *
  obtain ⟨⟨c0_0, c0_1, c0_2, c0_3, c0_4, c0_5⟩, -, c0z⟩ := PR.out
  obtain ⟨⟨c1_0, c1_1, c1_2, c1_3, c1_4, c1_5⟩, -, c1z⟩ := PX.out
  go_wp2_with fail
  refine (AW.out _).mono ?_
  rintro e w1 ⟨rfl, hb⟩
  replace PR := Lib.hid (PR.out.below hb)
  replace PX := Lib.hid (PX.out.below hb)
  replace B := bstep B hb
  clear hb AW
  clear c0_0 c0_1 c0_2 c0_3 c0_4 c0_5 c0z c1_0 c1_1 c1_2 c1_3 c1_4 c1_5 c1z
  obtain ⟨⟨c0_0, c0_1, c0_2, c0_3, c0_4, c0_5⟩, -, c0z⟩ := PR.out
  obtain ⟨⟨c1_0, c1_1, c1_2, c1_3, c1_4, c1_5⟩, -, c1z⟩ := PX.out
  go_wp2_with fail
  refine (MK.out _).mono ?_
  rintro e w2 ⟨rfl, hb⟩
  replace PR := Lib.hid (PR.out.below hb)
  replace PX := Lib.hid (PX.out.below hb)
  replace B := bstep B hb
  clear hb MK
  clear c0_0 c0_1 c0_2 c0_3 c0_4 c0_5 c0z c1_0 c1_1 c1_2 c1_3 c1_4 c1_5 c1z
  replace PR := Lib.hid (PR.out.alloc (MoC Y M D S rz O))
  replace PX := Lib.hid (PX.out.alloc (MoC Y M D S rz O))
  have PA := Lib.hid (HoldsN.new rfl : HoldsN (w2.alloc (MoC Y M D S rz O)) w2.heap.size Y M D S rz O)
  replace B := ballD1 B (MoC Y M D S rz O)
  go_upto_region 4 with fail
  change Code.wp _ _ _ _ (w2.alloc (MoC Y M D S rz O))
  generalize w2.alloc (MoC Y M D S rz O) = w3 at *
  obtain ⟨gPA, hg⟩ : ∃ g, g = w2.heap.size := ⟨_, rfl⟩
  rw [← hg] at PA ⊢
  clear hg
  clear PR
  clear PX
  obtain ⟨⟨c0_0, c0_1, c0_2, c0_3, c0_4, c0_5⟩, -, c0z⟩ := PA.out
  go_wp2_with fail
  refine (L1.out _).mono ?_
  rintro e w4 ⟨rfl, hb⟩
  replace PA := Lib.hid (PA.out.below hb)
  replace B := bstep B hb
  clear hb L1
  clear c0_0 c0_1 c0_2 c0_3 c0_4 c0_5 c0z
  replace PA := Lib.hid (PA.out.alloc (MoC 0 0 0 0 false 0))
  have PB := Lib.hid (HoldsN.new rfl : HoldsN (w4.alloc (MoC 0 0 0 0 false 0)) w4.heap.size 0 0 0 0 false 0)
  replace B := ballD1 B (MoC 0 0 0 0 false 0)
  go_upto_region 6 with fail
  change Code.wp _ _ _ _ (w4.alloc (MoC 0 0 0 0 false 0))
  generalize w4.alloc (MoC 0 0 0 0 false 0) = w5 at *
  obtain ⟨gPB, hg⟩ : ∃ g, g = w4.heap.size := ⟨_, rfl⟩
  rw [← hg] at PB ⊢
  clear hg
  cases q1
  · cases q2
    · cases q3
      · cases q4
        · cases q5
          · cases q6
            · cases any
            · obtain ⟨⟨c0_0, c0_1, c0_2, c0_3, c0_4, c0_5⟩, -, c0z⟩ := PA.out
              obtain ⟨⟨c1_0, c1_1, c1_2, c1_3, c1_4, c1_5⟩, -, c1z⟩ := PB.out
              go_wp2
              go_ret
              exact ⟨rfl, B⟩
          · obtain ⟨⟨c0_0, c0_1, c0_2, c0_3, c0_4, c0_5⟩, -, c0z⟩ := PA.out
            obtain ⟨⟨c1_0, c1_1, c1_2, c1_3, c1_4, c1_5⟩, -, c1z⟩ := PB.out
            go_wp2
            go_ret
            exact ⟨rfl, B⟩
        · obtain ⟨⟨c0_0, c0_1, c0_2, c0_3, c0_4, c0_5⟩, -, c0z⟩ := PA.out
          obtain ⟨⟨c1_0, c1_1, c1_2, c1_3, c1_4, c1_5⟩, -, c1z⟩ := PB.out
          go_wp2
          go_ret
          exact ⟨rfl, B⟩
      · obtain ⟨⟨c0_0, c0_1, c0_2, c0_3, c0_4, c0_5⟩, -, c0z⟩ := PA.out
        obtain ⟨⟨c1_0, c1_1, c1_2, c1_3, c1_4, c1_5⟩, -, c1z⟩ := PB.out
        go_wp2
        go_ret
        exact ⟨rfl, B⟩
    · obtain ⟨⟨c0_0, c0_1, c0_2, c0_3, c0_4, c0_5⟩, -, c0z⟩ := PA.out
      obtain ⟨⟨c1_0, c1_1, c1_2, c1_3, c1_4, c1_5⟩, -, c1z⟩ := PB.out
      go_wp2
      go_ret
      exact ⟨rfl, B⟩
  · obtain ⟨⟨c0_0, c0_1, c0_2, c0_3, c0_4, c0_5⟩, -, c0z⟩ := PA.out
    obtain ⟨⟨c1_0, c1_1, c1_2, c1_3, c1_4, c1_5⟩, -, c1z⟩ := PB.out
    go_wp2
    go_ret
    exact ⟨rfl, B⟩
set_option maxRecDepth 100000 in
set_option maxHeartbeats 4000000 in
theorem momentLater_walk (ry rm rd rs ro : Int) (rz : Bool) (n xy xm xd xs : Int) (xz : Bool) (xo : Int) (w : World) : Calls Try.prog 4 #[Rw ry rm rd rs ro rz, .int .i64 n, Mo xy xm xd xs xz xo] w (Ret (.bool true) w) := by
  have AW := Lib.hid awake8
  have MK0 := (make8_any ry rm rd rs ro rz)
  have day := make_day ry rm rd
  have may := makeM_may rs rz ro
  generalize mkD rd (lenI (ry.tmod 1000000000) (mkM rm)) = D at *
  generalize ry.tmod 1000000000 = Y at *
  generalize mkM rm = M at *
  generalize rs % 86400 = S at *
  generalize offM rz ro = O at *
  rcases laterN_case Y M D S rz O n day may with ⟨L10, far⟩ | ⟨y', m', d', s', day', may', hn, L10, inst, L20⟩
  · refine later_none Y M D S O ry rm rd rs ro rz n xy xm xd xs xz xo MK0 L10 _ _ _ _ _ _ rfl rfl rfl rfl rfl rfl ?_ w
    simp only [Bool.or_eq_true, decide_eq_true_eq]
    omega
  have MK := Lib.hid MK0
  have bt := btI_of day may day' may' rfl
  have BT0 := between_any Y M D S rz O y' m' d' s' rz O
  rw [bt.1, bt.2, inst, show instI Y M D S O + n - instI Y M D S O = n by omega] at BT0
  have f1 : wrap64 (-n) = -n := I64.wrap' (by unfold I64; omega)
  have g1 : IntKind.i64.wrap (-n) = -n := I64.wrap (by unfold I64; omega)
  obtain ⟨cy, cm, cd, cs, cz, co, has, LX0, hx0⟩ := laterN_some xy xm xd xs xz xo 0
  have MN0 := mayN_any xy xm xd xs xz xo
  generalize mayN xy xm xd xs xz xo = mm at *
  have BT := Lib.hid BT0
  have L1 := Lib.hid L10
  have L2 := Lib.hid L20
  have LX := Lib.hid LX0
  have MN := Lib.hid MN0
  have hx := Lib.hid hx0
  clear MK0 BT0 L10 L20 LX0 MN0 hx0 bt inst hn day may day' may'
  go_enter Try.func4, Try.ntmps4
  go_upto_region 1 with fail
  have PR := Lib.hid (HoldsR.alloc (HoldsR.new rfl) _ : HoldsR ((w.alloc (RwC ry rm rd rs ro rz)).alloc (MoC xy xm xd xs xz xo)) w.heap.size ry rm rd rs ro rz)
  have PX := Lib.hid (HoldsN.new (by simp) : HoldsN ((w.alloc (RwC ry rm rd rs ro rz)).alloc (MoC xy xm xd xs xz xo)) (w.heap.size + 1) xy xm xd xs xz xo)
  have B := ballD1 (ballD1 (Below.refl w.heap.size w) (RwC ry rm rd rs ro rz)) (MoC xy xm xd xs xz xo)
  change Code.wp _ _ _ _ ((w.alloc (RwC ry rm rd rs ro rz)).alloc (MoC xy xm xd xs xz xo))
  generalize ((w.alloc (RwC ry rm rd rs ro rz)).alloc (MoC xy xm xd xs xz xo)) = w0 at *
  obtain ⟨⟨c0_0, c0_1, c0_2, c0_3, c0_4, c0_5⟩, -, c0z⟩ := PR.out
  obtain ⟨⟨c1_0, c1_1, c1_2, c1_3, c1_4, c1_5⟩, -, c1z⟩ := PX.out
  go_wp2_with fail
  refine (AW.out _).mono ?_
  rintro e w1 ⟨rfl, hb⟩
  replace PR := Lib.hid (PR.out.below hb)
  replace PX := Lib.hid (PX.out.below hb)
  replace B := bstep B hb
  clear hb AW
  clear c0_0 c0_1 c0_2 c0_3 c0_4 c0_5 c0z c1_0 c1_1 c1_2 c1_3 c1_4 c1_5 c1z
  obtain ⟨⟨c0_0, c0_1, c0_2, c0_3, c0_4, c0_5⟩, -, c0z⟩ := PR.out
  obtain ⟨⟨c1_0, c1_1, c1_2, c1_3, c1_4, c1_5⟩, -, c1z⟩ := PX.out
  go_wp2_with fail
  refine (MK.out _).mono ?_
  rintro e w2 ⟨rfl, hb⟩
  replace PR := Lib.hid (PR.out.below hb)
  replace PX := Lib.hid (PX.out.below hb)
  replace B := bstep B hb
  clear hb MK
  clear c0_0 c0_1 c0_2 c0_3 c0_4 c0_5 c0z c1_0 c1_1 c1_2 c1_3 c1_4 c1_5 c1z
  replace PR := Lib.hid (PR.out.alloc (MoC Y M D S rz O))
  replace PX := Lib.hid (PX.out.alloc (MoC Y M D S rz O))
  have PA := Lib.hid (HoldsN.new rfl : HoldsN (w2.alloc (MoC Y M D S rz O)) w2.heap.size Y M D S rz O)
  replace B := ballD1 B (MoC Y M D S rz O)
  go_upto_region 4 with fail
  change Code.wp _ _ _ _ (w2.alloc (MoC Y M D S rz O))
  generalize w2.alloc (MoC Y M D S rz O) = w3 at *
  obtain ⟨gPA, hg⟩ : ∃ g, g = w2.heap.size := ⟨_, rfl⟩
  rw [← hg] at PA ⊢
  clear hg
  clear PR
  obtain ⟨⟨c0_0, c0_1, c0_2, c0_3, c0_4, c0_5⟩, -, c0z⟩ := PX.out
  obtain ⟨⟨c1_0, c1_1, c1_2, c1_3, c1_4, c1_5⟩, -, c1z⟩ := PA.out
  go_wp2_with fail
  refine (L1.out _).mono ?_
  rintro e w4 ⟨rfl, hb⟩
  replace PX := Lib.hid (PX.out.below hb)
  replace PA := Lib.hid (PA.out.below hb)
  replace B := bstep B hb
  clear hb L1
  clear c0_0 c0_1 c0_2 c0_3 c0_4 c0_5 c0z c1_0 c1_1 c1_2 c1_3 c1_4 c1_5 c1z
  replace PX := Lib.hid (PX.out.alloc (MoC y' m' d' s' rz O))
  replace PA := Lib.hid (PA.out.alloc (MoC y' m' d' s' rz O))
  have PB := Lib.hid (HoldsN.new rfl : HoldsN (w4.alloc (MoC y' m' d' s' rz O)) w4.heap.size y' m' d' s' rz O)
  replace B := ballD1 B (MoC y' m' d' s' rz O)
  go_upto_region 7 with fail
  change Code.wp _ _ _ _ (w4.alloc (MoC y' m' d' s' rz O))
  generalize w4.alloc (MoC y' m' d' s' rz O) = w5 at *
  obtain ⟨gPB, hg⟩ : ∃ g, g = w4.heap.size := ⟨_, rfl⟩
  rw [← hg] at PB ⊢
  clear hg
  obtain ⟨⟨c0_0, c0_1, c0_2, c0_3, c0_4, c0_5⟩, -, c0z⟩ := PX.out
  obtain ⟨⟨c1_0, c1_1, c1_2, c1_3, c1_4, c1_5⟩, -, c1z⟩ := PA.out
  obtain ⟨⟨c2_0, c2_1, c2_2, c2_3, c2_4, c2_5⟩, -, c2z⟩ := PB.out
  go_wp2_with fail
  refine (BT.out _).mono ?_
  rintro e w6 ⟨rfl, hb⟩
  replace PX := Lib.hid (PX.out.below hb)
  replace PA := Lib.hid (PA.out.below hb)
  replace PB := Lib.hid (PB.out.below hb)
  replace B := bstep B hb
  clear hb BT
  clear c0_0 c0_1 c0_2 c0_3 c0_4 c0_5 c0z c1_0 c1_1 c1_2 c1_3 c1_4 c1_5 c1z c2_0 c2_1 c2_2 c2_3 c2_4 c2_5 c2z
  obtain ⟨⟨c0_0, c0_1, c0_2, c0_3, c0_4, c0_5⟩, -, c0z⟩ := PX.out
  obtain ⟨⟨c1_0, c1_1, c1_2, c1_3, c1_4, c1_5⟩, -, c1z⟩ := PA.out
  obtain ⟨⟨c2_0, c2_1, c2_2, c2_3, c2_4, c2_5⟩, -, c2z⟩ := PB.out
  go_wp2_with fail
  refine (L2.out _).mono ?_
  rintro e w7 ⟨rfl, hb⟩
  replace PX := Lib.hid (PX.out.below hb)
  replace PA := Lib.hid (PA.out.below hb)
  replace PB := Lib.hid (PB.out.below hb)
  replace B := bstep B hb
  clear hb L2
  clear c0_0 c0_1 c0_2 c0_3 c0_4 c0_5 c0z c1_0 c1_1 c1_2 c1_3 c1_4 c1_5 c1z c2_0 c2_1 c2_2 c2_3 c2_4 c2_5 c2z
  replace PX := Lib.hid (PX.out.alloc (MoC Y M D S rz O))
  replace PA := Lib.hid (PA.out.alloc (MoC Y M D S rz O))
  replace PB := Lib.hid (PB.out.alloc (MoC Y M D S rz O))
  have PC := Lib.hid (HoldsN.new rfl : HoldsN (w7.alloc (MoC Y M D S rz O)) w7.heap.size Y M D S rz O)
  replace B := ballD1 B (MoC Y M D S rz O)
  go_upto_region 9 with fail
  change Code.wp _ _ _ _ (w7.alloc (MoC Y M D S rz O))
  generalize w7.alloc (MoC Y M D S rz O) = w8 at *
  obtain ⟨gPC, hg⟩ : ∃ g, g = w7.heap.size := ⟨_, rfl⟩
  rw [← hg] at PC ⊢
  clear hg
  obtain ⟨⟨c0_0, c0_1, c0_2, c0_3, c0_4, c0_5⟩, -, c0z⟩ := PX.out
  obtain ⟨⟨c1_0, c1_1, c1_2, c1_3, c1_4, c1_5⟩, -, c1z⟩ := PA.out
  obtain ⟨⟨c2_0, c2_1, c2_2, c2_3, c2_4, c2_5⟩, -, c2z⟩ := PB.out
  obtain ⟨⟨c3_0, c3_1, c3_2, c3_3, c3_4, c3_5⟩, -, c3z⟩ := PC.out
  go_wp2_with fail
  refine (LX.out _).mono ?_
  rintro e w9 ⟨rfl, hb⟩
  replace PX := Lib.hid (PX.out.below hb)
  replace PA := Lib.hid (PA.out.below hb)
  replace PB := Lib.hid (PB.out.below hb)
  replace PC := Lib.hid (PC.out.below hb)
  replace B := bstep B hb
  clear hb LX
  clear c0_0 c0_1 c0_2 c0_3 c0_4 c0_5 c0z c1_0 c1_1 c1_2 c1_3 c1_4 c1_5 c1z c2_0 c2_1 c2_2 c2_3 c2_4 c2_5 c2z c3_0 c3_1 c3_2 c3_3 c3_4 c3_5 c3z
  replace PX := Lib.hid (PX.out.alloc (MoC cy cm cd cs cz co))
  replace PA := Lib.hid (PA.out.alloc (MoC cy cm cd cs cz co))
  replace PB := Lib.hid (PB.out.alloc (MoC cy cm cd cs cz co))
  replace PC := Lib.hid (PC.out.alloc (MoC cy cm cd cs cz co))
  have PE := Lib.hid (HoldsN.new rfl : HoldsN (w9.alloc (MoC cy cm cd cs cz co)) w9.heap.size cy cm cd cs cz co)
  replace B := ballD1 B (MoC cy cm cd cs cz co)
  go_upto_region 10 with fail
  change Code.wp _ _ _ _ (w9.alloc (MoC cy cm cd cs cz co))
  generalize w9.alloc (MoC cy cm cd cs cz co) = w10 at *
  obtain ⟨gPE, hg⟩ : ∃ g, g = w9.heap.size := ⟨_, rfl⟩
  rw [← hg] at PE ⊢
  clear hg
  cases has
  · obtain ⟨⟨c0_0, c0_1, c0_2, c0_3, c0_4, c0_5⟩, -, c0z⟩ := PX.out
    obtain ⟨⟨c1_0, c1_1, c1_2, c1_3, c1_4, c1_5⟩, -, c1z⟩ := PA.out
    obtain ⟨⟨c2_0, c2_1, c2_2, c2_3, c2_4, c2_5⟩, -, c2z⟩ := PB.out
    obtain ⟨⟨c3_0, c3_1, c3_2, c3_3, c3_4, c3_5⟩, -, c3z⟩ := PC.out
    obtain ⟨⟨c4_0, c4_1, c4_2, c4_3, c4_4, c4_5⟩, -, c4z⟩ := PE.out
    go_wp2
    go_ret
    exact ⟨rfl, B⟩
  · obtain rfl := hx.out (by trivial)
    clear hx
    obtain ⟨⟨c0_0, c0_1, c0_2, c0_3, c0_4, c0_5⟩, -, c0z⟩ := PX.out
    obtain ⟨⟨c1_0, c1_1, c1_2, c1_3, c1_4, c1_5⟩, -, c1z⟩ := PA.out
    obtain ⟨⟨c2_0, c2_1, c2_2, c2_3, c2_4, c2_5⟩, -, c2z⟩ := PB.out
    obtain ⟨⟨c3_0, c3_1, c3_2, c3_3, c3_4, c3_5⟩, -, c3z⟩ := PC.out
    obtain ⟨⟨c4_0, c4_1, c4_2, c4_3, c4_4, c4_5⟩, -, c4z⟩ := PE.out
    go_wp2_with fail
    refine (MN.out _).mono ?_
    rintro e w11 ⟨rfl, hb⟩
    replace PX := Lib.hid (PX.out.below hb)
    replace PA := Lib.hid (PA.out.below hb)
    replace PB := Lib.hid (PB.out.below hb)
    replace PC := Lib.hid (PC.out.below hb)
    replace PE := Lib.hid (PE.out.below hb)
    replace B := bstep B hb
    clear hb MN
    clear c0_0 c0_1 c0_2 c0_3 c0_4 c0_5 c0z c1_0 c1_1 c1_2 c1_3 c1_4 c1_5 c1z c2_0 c2_1 c2_2 c2_3 c2_4 c2_5 c2z c3_0 c3_1 c3_2 c3_3 c3_4 c3_5 c3z c4_0 c4_1 c4_2 c4_3 c4_4 c4_5 c4z
    go_wp2
    go_ret
    exact ⟨rfl, B⟩
end Go.Proofs.Ytelgnfkjldghdaa
