/-
  The statement RoundParity, walked: it answers true, where the document's examples do.
-/
import Derived.Test.YtoobmopmmoficaaDoorVall
import Derived.Deep.RegionHeld3
namespace Go.Proofs.YtoobmopmmoficaaDoor
open Go.RowKit

/-- A whole number of an int. -/
theorem int_any (n : Int) (h1 : -9223372036854775808 ≤ n) (h2 : n ≤ 9223372036854775807) (w : World) : Calls Tryd.prog 29 #[.int .i64 n] w fun e w' => e = .returned (Dv (decide (n < 0)) 0 n.natAbs 0) ∧ Below w.heap.size w w' := by
  by_cases z : n < 0
  · have k := int_neg n.natAbs (by omega) (by omega) w
    rw [show -((n.natAbs : Nat) : Int) = n by omega] at k
    refine k.mono ?_
    rintro e w' ⟨a, b, c, d, ⟨rfl, rfl, rfl, rfl⟩, rfl, hb⟩
    exact ⟨by rw [decide_eq_true z], hb⟩
  · have k := int_yes n.natAbs (by omega) w
    rw [show ((n.natAbs : Nat) : Int) = n by omega] at k
    refine k.mono ?_
    rintro e w' ⟨a, b, c, d, ⟨rfl, rfl, rfl, rfl⟩, rfl, hb⟩
    exact ⟨by rw [decide_eq_false z], hb⟩
theorem rwF_up {m : Nat} {n : Bool} {c : Nat} {x : Int} (h : 0 ≤ x) : rwF m n c x = (n, c, x) := by unfold rwF; rw [if_pos h]
theorem exB_int (n : Bool) (c : Nat) : exB n c 0 = true := by
  unfold exB
  rw [rwF_up (Int.le_refl 0)]
  exact decide_eq_true rfl
theorem even_int (n : Bool) (c : Nat) (hc : c < 18446744073709551616) (hz : c = 0 → n = false) (w : World) (ht : Tab w) : Calls Tryd.prog 40 #[Dv n 0 c 0] w (RetB (!decide (c % 2 = 1)) w) := by
  have k := even_r n 0 c 0 (ww1 hc) (by rw [nv01]; exact ⟨Nat.lt_of_lt_of_le hc (by decide), by decide, by decide⟩) (by rw [nv01]; exact hz) w ht
  rw [nv01, exB_int, rwF_up (Int.le_refl 0), Bool.true_and, show oddT (n, c, 0) = decide (c % 2 = 1) from by unfold oddT; show (decide ((0 : Int) = 0) && decide (c % 2 = 1)) = _; rw [decide_eq_true rfl, Bool.true_and]] at k
  exact k
theorem odd_int (n : Bool) (c : Nat) (hc : c < 18446744073709551616) (hz : c = 0 → n = false) (w : World) (ht : Tab w) : Calls Tryd.prog 41 #[Dv n 0 c 0] w (RetB (decide (c % 2 = 1)) w) := by
  have k := odd_r n 0 c 0 (ww1 hc) (by rw [nv01]; exact ⟨Nat.lt_of_lt_of_le hc (by decide), by decide, by decide⟩) (by rw [nv01]; exact hz) w ht
  rw [nv01, exB_int, rwF_up (Int.le_refl 0), Bool.true_and, show oddT (n, c, 0) = decide (c % 2 = 1) from by unfold oddT; show (decide ((0 : Int) = 0) && decide (c % 2 = 1)) = _; rw [decide_eq_true rfl, Bool.true_and]] at k
  exact k

set_option linter.unusedSimpArgs false in
set_option maxRecDepth 100000 in
set_option maxHeartbeats 8000000 in
theorem roundParity_walk (AW : ∀ w : World, Tab w → Calls Tryd.prog 31 #[] w (RetB true w)) (n : Int) (n1 : -2147483648 ≤ n) (n2 : n ≤ 2147483647) (w : World) (ht : Tab w) :
    Calls Tryd.prog 10 #[.int .i32 n] w (RetB true w) := by
  have HT := Lib.hid ht
  have AWH := Lib.hid AW
  obtain ⟨b, hb⟩ : ∃ b : Int, b = n + 1 := ⟨_, rfl⟩
  obtain ⟨d, hd⟩ : ∃ b : Int, b = 2 * n := ⟨_, rfl⟩
  have IA := Lib.hid (int_any n (by omega) (by omega))
  have IB := Lib.hid (int_any b (by omega) (by omega))
  have ID := Lib.hid (int_any d (by omega) (by omega))
  have EA := Lib.hid (even_int (decide (n < 0)) n.natAbs (by omega) (fun z => decide_eq_false (by omega)))
  have OA := Lib.hid (odd_int (decide (n < 0)) n.natAbs (by omega) (fun z => decide_eq_false (by omega)))
  have OB := Lib.hid (odd_int (decide (b < 0)) b.natAbs (by omega) (fun z => decide_eq_false (by omega)))
  have ED := Lib.hid (even_int (decide (d < 0)) d.natAbs (by omega) (fun z => decide_eq_false (by omega)))
  obtain ⟨p, hp⟩ : ∃ p : Bool, p = decide (n.natAbs % 2 = 1) := ⟨_, rfl⟩
  have pb : decide (b.natAbs % 2 = 1) = !p := by
    rw [hp]
    by_cases k : n.natAbs % 2 = 1
    · rw [decide_eq_true k]; exact decide_eq_false (by omega)
    · rw [decide_eq_false k]; exact decide_eq_true (by omega)
  have pd : (!decide (d.natAbs % 2 = 1)) = true := by
    rw [decide_eq_false (show ¬ d.natAbs % 2 = 1 by omega)]; rfl
  have pt : (n.tmod 2 == 0) = !p := by
    rw [hp]
    by_cases k : n.natAbs % 2 = 1
    · rw [decide_eq_true k]
      have : n.tmod 2 ≠ 0 := by intro z; have := Int.tmod_add_mul_tdiv n 2; omega
      simpa using this
    · rw [decide_eq_false k]
      have : n.tmod 2 = 0 := by
        have h1 := Int.tmod_add_mul_tdiv n 2
        have h2 := Int.lt_tmod_of_pos n (show (0 : Int) < 2 by decide)
        have h3 := Int.tmod_lt_of_pos n (show (0 : Int) < 2 by decide)
        omega
      rw [this]; rfl
  rw [← hp] at EA OA
  rw [pb] at OB
  rw [pd] at ED
  generalize decide (n < 0) = sa at *
  generalize decide (b < 0) = sb at *
  generalize decide (d < 0) = sd at *
  generalize n.natAbs = ca at *
  generalize b.natAbs = cb at *
  generalize d.natAbs = cd at *
  have u1 : IntKind.i64.wrap n = n := by rw [IntKind.wrap_i64]; omega
  have u2 : IntKind.i64.wrap b = b := by rw [IntKind.wrap_i64]; omega
  have u3 : wrap64 b = b := by unfold wrap64; omega
  have u4 : wrap64 n = n := by unfold wrap64; omega
  have u5 : IntKind.i64.wrap d = d := by rw [IntKind.wrap_i64]; omega
  have u6 : wrap64 d = d := by unfold wrap64; omega
  have v1 : n + 1 = b := hb.symm
  have v2 : 2 * n = d := hd.symm
  replace EA := Lib.hid (show ∀ w : World, Tab w → Calls Tryd.prog 40 #[.agg #[.bool sa, .int .u64 0, .int .u64 (ca : Int), .int .i64 0]] w (RetB (!p) w) from EA.out)
  replace OA := Lib.hid (show ∀ w : World, Tab w → Calls Tryd.prog 41 #[.agg #[.bool sa, .int .u64 0, .int .u64 (ca : Int), .int .i64 0]] w (RetB p w) from OA.out)
  replace OB := Lib.hid (show ∀ w : World, Tab w → Calls Tryd.prog 41 #[.agg #[.bool sb, .int .u64 0, .int .u64 (cb : Int), .int .i64 0]] w (RetB (!p) w) from OB.out)
  replace ED := Lib.hid (show ∀ w : World, Tab w → Calls Tryd.prog 40 #[.agg #[.bool sd, .int .u64 0, .int .u64 (cd : Int), .int .i64 0]] w (RetB true w) from ED.out)
  replace ID := Lib.hid (show ∀ w : World, Calls Tryd.prog 29 #[.int .i64 d] w (fun e w' => e = .returned (.agg #[.bool sd, .int .u64 0, .int .u64 (cd : Int), .int .i64 0]) ∧ Below w.heap.size w w') from ID.out)
  clear ht AW n1 n2 hb hd hp pb pd
  go_enter Tryd.func10, Tryd.ntmps10
  go_wp2_with fail
  refine (AWH.out _ (HT.out.below (by go_grown))).mono ?_
  rintro e' w1 ⟨rfl, hb1⟩
  have B : Below w.heap.size w w1 := bstep (by go_grown) hb1
  clear hb1 AWH
  go_wp2_with fail
  refine (IA.out _).mono ?_
  rintro e y1 ⟨rfl, hb⟩
  replace B := bstep B hb
  clear hb
  clear IA
  go_wp2_with fail
  refine (IB.out _).mono ?_
  rintro e y2 ⟨rfl, hb⟩
  replace B := bstep B hb
  clear hb
  clear IB
  have P3 := Lib.hid (HoldsD.alloc (HoldsD.new4 rfl) _ : HoldsD ((y2.alloc (.cells #[.bool sa, .int .u64 0, .int .u64 (ca : Int), .int .i64 0] 28)).alloc (.cells #[.bool sb, .int .u64 0, .int .u64 (cb : Int), .int .i64 0] 28)) y2.heap.size sa 0 ca 0)
  have P4 := Lib.hid (HoldsD.new4 (by simp) : HoldsD ((y2.alloc (.cells #[.bool sa, .int .u64 0, .int .u64 (ca : Int), .int .i64 0] 28)).alloc (.cells #[.bool sb, .int .u64 0, .int .u64 (cb : Int), .int .i64 0] 28)) (y2.heap.size + 1) sb 0 cb 0)
  replace B := ballD1 (ballD1 B (.cells #[.bool sa, .int .u64 0, .int .u64 (ca : Int), .int .i64 0] 28)) (.cells #[.bool sb, .int .u64 0, .int .u64 (cb : Int), .int .i64 0] 28)
  go_upto_region 4 with fail
  obtain ⟨g, hg⟩ : ∃ g, g = y2.heap.size := ⟨_, rfl⟩
  rw [← hg] at P3 P4
  rw [← hg]
  generalize (y2.alloc (.cells #[.bool sa, .int .u64 0, .int .u64 (ca : Int), .int .i64 0] 28)).alloc (.cells #[.bool sb, .int .u64 0, .int .u64 (cb : Int), .int .i64 0] 28) = V at *
  clear hg
  obtain ⟨⟨c1_1, c1_2, c1_3, c1_4⟩, -, c1_9⟩ := P3.out
  obtain ⟨⟨c2_1, c2_2, c2_3, c2_4⟩, -, c2_9⟩ := P4.out
  cases p
  all_goals
    simp only [Bool.not_false, Bool.not_true] at EA OA OB pt
    go_region_held3 (fun w' => w'.cell? ⟨g, 0, none⟩ = some (.bool sa) ∧ w'.cell? ⟨g, 1, none⟩ = some (.int .u64 0) ∧ w'.cell? ⟨g, 2, none⟩ = some (.int .u64 (ca : Int)) ∧ w'.cell? ⟨g, 3, none⟩ = some (.int .i64 0) ∧ w'.cell? ⟨g + 1, 0, none⟩ = some (.bool sb) ∧ w'.cell? ⟨g + 1, 1, none⟩ = some (.int .u64 0) ∧ w'.cell? ⟨g + 1, 2, none⟩ = some (.int .u64 (cb : Int)) ∧ w'.cell? ⟨g + 1, 3, none⟩ = some (.int .i64 0))
      (repeat' (first | (with_reducible assumption) | (with_reducible refine keep44a ?_) | (with_reducible refine keep44d ?_) | exact ⟨c1_1, c1_2, c1_3, c1_4, c2_1, c2_2, c2_3, c2_4⟩ | (with_reducible refine keep44 (by with_reducible assumption) ?_) | (with_reducible refine keep44 (bundrew (by with_reducible assumption)) ?_)))
      (first
        | (go_at_call 40; (first | (with_reducible refine (EA.out _ ?_).mono ?_) | (with_reducible refine (ED.out _ ?_).mono ?_)); (exact HT.out.below (by repeat' (first | (with_reducible exact B) | (with_reducible refine Below.drew ?_) | (with_reducible refine ballD1 ?_ _) | (with_reducible refine bstep ?_ (by with_reducible assumption))))); rintro e wE ⟨rfl, hbE⟩)
        | (go_at_call 41; (first | (with_reducible refine (OA.out _ ?_).mono ?_) | (with_reducible refine (OB.out _ ?_).mono ?_)); (exact HT.out.below (by repeat' (first | (with_reducible exact B) | (with_reducible refine Below.drew ?_) | (with_reducible refine ballD1 ?_ _) | (with_reducible refine bstep ?_ (by with_reducible assumption))))); rintro e wO ⟨rfl, hbO⟩)
        | (go_at_call 29; (with_reducible refine (ID.out _).mono ?_); rintro e wI ⟨rfl, hbI⟩))
  all_goals
    clear c1_1 c1_2 c1_3 c1_4 c1_9 c2_1 c2_2 c2_3 c2_4 c2_9
    go_wp2
    go_ret
    refine ⟨rfl, ?_⟩
    repeat' (first | (with_reducible exact B) | (with_reducible refine Below.drew ?_) | (with_reducible refine ballD1 ?_ _) | (with_reducible refine bstep ?_ (by with_reducible assumption)))
end Go.Proofs.YtoobmopmmoficaaDoor
