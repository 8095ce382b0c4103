/-
  The statement DecTells, walked: it answers true, where the document's examples do.
-/
import Derived.Test.YteboohejlkionaaDoorTall
namespace Go.Proofs.YteboohejlkionaaDoor
open Go.RowKit

theorem int_any (z : Int) (z1 : -9223372036854775808 ≤ z) (z2 : z ≤ 9223372036854775807) (w : World) : Calls Tryd.prog 12 #[.int .i64 z] w (RetD (fun n h' l' x' => n = decide (z < 0) ∧ h' = 0 ∧ l' = z.natAbs ∧ x' = 0) w) := by
  by_cases k : z < 0
  · obtain ⟨m, rfl⟩ : ∃ m : Nat, z = -(m : Int) := ⟨z.natAbs, by omega⟩
    refine (int_neg m (by omega) (by omega) w).mono ?_
    rintro e w1 ⟨n, h, l, x, ⟨rfl, rfl, rfl, rfl⟩, rfl, hb⟩
    exact ⟨_, _, _, _, ⟨(decide_eq_true k).symm, rfl, by simp, rfl⟩, rfl, hb⟩
  · obtain ⟨m, rfl⟩ : ∃ m : Nat, z = (m : Int) := ⟨z.natAbs, by omega⟩
    refine (int_yes m (by omega) w).mono ?_
    rintro e w1 ⟨n, h, l, x, ⟨rfl, rfl, rfl, rfl⟩, rfl, hb⟩
    exact ⟨_, _, _, _, ⟨(decide_eq_false k).symm, rfl, by simp, rfl⟩, rfl, hb⟩

theorem keep443 {W w' : World} {g k j : Nat} {v0 v1 v2 v3 v4 v5 v6 v7 v8 v9 v10 : Value} (hb : Below W.heap.size W w') (h : W.cell? ⟨g, 0, none⟩ = some v0 ∧ W.cell? ⟨g, 1, none⟩ = some v1 ∧ W.cell? ⟨g, 2, none⟩ = some v2 ∧ W.cell? ⟨g, 3, none⟩ = some v3 ∧ W.cell? ⟨k, 0, none⟩ = some v4 ∧ W.cell? ⟨k, 1, none⟩ = some v5 ∧ W.cell? ⟨k, 2, none⟩ = some v6 ∧ W.cell? ⟨k, 3, none⟩ = some v7 ∧ W.cell? ⟨j, 0, none⟩ = some v8 ∧ W.cell? ⟨j, 1, none⟩ = some v9 ∧ W.cell? ⟨j, 2, none⟩ = some v10) : w'.cell? ⟨g, 0, none⟩ = some v0 ∧ w'.cell? ⟨g, 1, none⟩ = some v1 ∧ w'.cell? ⟨g, 2, none⟩ = some v2 ∧ w'.cell? ⟨g, 3, none⟩ = some v3 ∧ w'.cell? ⟨k, 0, none⟩ = some v4 ∧ w'.cell? ⟨k, 1, none⟩ = some v5 ∧ w'.cell? ⟨k, 2, none⟩ = some v6 ∧ w'.cell? ⟨k, 3, none⟩ = some v7 ∧ w'.cell? ⟨j, 0, none⟩ = some v8 ∧ w'.cell? ⟨j, 1, none⟩ = some v9 ∧ w'.cell? ⟨j, 2, none⟩ = some v10 := ⟨keepCell2 h.1 hb, keepCell2 h.2.1 hb, keepCell2 h.2.2.1 hb, keepCell2 h.2.2.2.1 hb, keepCell2 h.2.2.2.2.1 hb, keepCell2 h.2.2.2.2.2.1 hb, keepCell2 h.2.2.2.2.2.2.1 hb, keepCell2 h.2.2.2.2.2.2.2.1 hb, keepCell2 h.2.2.2.2.2.2.2.2.1 hb, keepCell2 h.2.2.2.2.2.2.2.2.2.1 hb, keepCell2 h.2.2.2.2.2.2.2.2.2.2 hb⟩
theorem keep443d {W : World} {g k j : Nat} {v0 v1 v2 v3 v4 v5 v6 v7 v8 v9 v10 : Value} (h : W.cell? ⟨g, 0, none⟩ = some v0 ∧ W.cell? ⟨g, 1, none⟩ = some v1 ∧ W.cell? ⟨g, 2, none⟩ = some v2 ∧ W.cell? ⟨g, 3, none⟩ = some v3 ∧ W.cell? ⟨k, 0, none⟩ = some v4 ∧ W.cell? ⟨k, 1, none⟩ = some v5 ∧ W.cell? ⟨k, 2, none⟩ = some v6 ∧ W.cell? ⟨k, 3, none⟩ = some v7 ∧ W.cell? ⟨j, 0, none⟩ = some v8 ∧ W.cell? ⟨j, 1, none⟩ = some v9 ∧ W.cell? ⟨j, 2, none⟩ = some v10) : W.drew.cell? ⟨g, 0, none⟩ = some v0 ∧ W.drew.cell? ⟨g, 1, none⟩ = some v1 ∧ W.drew.cell? ⟨g, 2, none⟩ = some v2 ∧ W.drew.cell? ⟨g, 3, none⟩ = some v3 ∧ W.drew.cell? ⟨k, 0, none⟩ = some v4 ∧ W.drew.cell? ⟨k, 1, none⟩ = some v5 ∧ W.drew.cell? ⟨k, 2, none⟩ = some v6 ∧ W.drew.cell? ⟨k, 3, none⟩ = some v7 ∧ W.drew.cell? ⟨j, 0, none⟩ = some v8 ∧ W.drew.cell? ⟨j, 1, none⟩ = some v9 ∧ W.drew.cell? ⟨j, 2, none⟩ = some v10 := h
theorem keep11B {W w' : World} {g k j : Nat} {v0 v1 v2 v3 v4 v5 v6 v7 v8 v9 v10 : Value} (h : W.cell? ⟨g, 0, none⟩ = some v0 ∧ W.cell? ⟨g, 1, none⟩ = some v1 ∧ W.cell? ⟨g, 2, none⟩ = some v2 ∧ W.cell? ⟨g, 3, none⟩ = some v3 ∧ W.cell? ⟨k, 0, none⟩ = some v4 ∧ W.cell? ⟨k, 1, none⟩ = some v5 ∧ W.cell? ⟨k, 2, none⟩ = some v6 ∧ W.cell? ⟨k, 3, none⟩ = some v7 ∧ W.cell? ⟨j, 0, none⟩ = some v8 ∧ W.cell? ⟨j, 1, none⟩ = some v9 ∧ W.cell? ⟨j, 2, none⟩ = some v10) (hb : Below W.heap.size W w') : w'.cell? ⟨g, 0, none⟩ = some v0 ∧ w'.cell? ⟨g, 1, none⟩ = some v1 ∧ w'.cell? ⟨g, 2, none⟩ = some v2 ∧ w'.cell? ⟨g, 3, none⟩ = some v3 ∧ w'.cell? ⟨k, 0, none⟩ = some v4 ∧ w'.cell? ⟨k, 1, none⟩ = some v5 ∧ w'.cell? ⟨k, 2, none⟩ = some v6 ∧ w'.cell? ⟨k, 3, none⟩ = some v7 ∧ w'.cell? ⟨j, 0, none⟩ = some v8 ∧ w'.cell? ⟨j, 1, none⟩ = some v9 ∧ w'.cell? ⟨j, 2, none⟩ = some v10 ∧ Below W.heap.size W w' := ⟨keepCell2 h.1 hb, keepCell2 h.2.1 hb, keepCell2 h.2.2.1 hb, keepCell2 h.2.2.2.1 hb, keepCell2 h.2.2.2.2.1 hb, keepCell2 h.2.2.2.2.2.1 hb, keepCell2 h.2.2.2.2.2.2.1 hb, keepCell2 h.2.2.2.2.2.2.2.1 hb, keepCell2 h.2.2.2.2.2.2.2.2.1 hb, keepCell2 h.2.2.2.2.2.2.2.2.2.1 hb, keepCell2 h.2.2.2.2.2.2.2.2.2.2 hb, hb⟩
theorem keep7B {W w' : World} {g k : Nat} {v0 v1 v2 v3 v4 v5 v6 : Value} (h : W.cell? ⟨g, 0, none⟩ = some v0 ∧ W.cell? ⟨g, 1, none⟩ = some v1 ∧ W.cell? ⟨g, 2, none⟩ = some v2 ∧ W.cell? ⟨g, 3, none⟩ = some v3 ∧ W.cell? ⟨k, 0, none⟩ = some v4 ∧ W.cell? ⟨k, 1, none⟩ = some v5 ∧ W.cell? ⟨k, 2, none⟩ = some v6) (hb : Below W.heap.size W w') : w'.cell? ⟨g, 0, none⟩ = some v0 ∧ w'.cell? ⟨g, 1, none⟩ = some v1 ∧ w'.cell? ⟨g, 2, none⟩ = some v2 ∧ w'.cell? ⟨g, 3, none⟩ = some v3 ∧ w'.cell? ⟨k, 0, none⟩ = some v4 ∧ w'.cell? ⟨k, 1, none⟩ = some v5 ∧ w'.cell? ⟨k, 2, none⟩ = some v6 ∧ Below W.heap.size W w' := ⟨keepCell2 h.1 hb, keepCell2 h.2.1 hb, keepCell2 h.2.2.1 hb, keepCell2 h.2.2.2.1 hb, keepCell2 h.2.2.2.2.1 hb, keepCell2 h.2.2.2.2.2.1 hb, keepCell2 h.2.2.2.2.2.2 hb, hb⟩
/-- How many digits there are, and whether a coefficient may be. -/
theorem len34 (c : Nat) : ((Dg.dg c).length ≤ 34 ↔ c < 10 ^ 34) ∧ ((Dg.dg c).length = 0 ↔ c = 0) := by
  constructor
  · constructor
    · intro k
      exact Nat.lt_of_lt_of_le (Dg.dg_bounds c).1 (p10_mono k)
    · exact Dg.dg_length_le
  · constructor
    · intro k
      rcases Nat.eq_zero_or_pos c with z | z
      · exact z
      · have := nd_pos (n := c) (by omega)
        unfold nd at this
        omega
    · rintro rfl; rw [Dg.dg_zero]; rfl

set_option maxRecDepth 100000 in
set_option maxHeartbeats 16000000 in
theorem decTells_walk0 (AW : AwC) (neg : Bool) (h l : Nat) (ex z : Int) (n : Bool) (rh rl : Nat) (rx : Int) (h1 : WW h l) (z1 : -9223372036854775808 ≤ z) (z2 : z ≤ 9223372036854775807) (h2 : WW rh rl) (y1 : -9223372036854775808 ≤ rx) (y2 : rx ≤ 9223372036854775807) (w : World) (ht : Tab w) :
    Calls Tryd.prog 3 #[.bool neg, U h l, .int .i64 ex, .int .i64 z, Dv n rh rl rx] w (RetB true w) := by
  have HT := Lib.hid ht
  have AWH := Lib.hid AW
  have MY := Lib.hid (may_any neg h l ex h1)
  have NN := Lib.hid (N_any h l h1)
  have IN := Lib.hid (int_any z z1 z2)
  have IM := Lib.hid (may_any (decide (z < 0)) 0 z.natAbs 0 ⟨by decide, by omega⟩)
  rw [show nv 0 z.natAbs = z.natAbs from nv01 _, may_int z z1 z2] at IM
  have IW := Lib.hid (whole_any (decide (z < 0)) 0 z.natAbs 0 ⟨by decide, by omega⟩ (by decide) (by decide))
  rw [show nv 0 z.natAbs = z.natAbs from nv01 _, (wh_int z z1 z2).1, (wh_int z z1 z2).2] at IW
  have MK := Lib.hid (make_any n rh rl rx h2 y1 y2)
  obtain ⟨L34, L0⟩ := len34 (nv h l)
  have HL := Lib.hid (And.intro L34 L0)
  clear ht AW h1 h2 z1 z2 y1 y2 L34 L0
  generalize hzs : decide (z < 0) = zs at *
  generalize hza : z.natAbs = za at *
  clear hzs hza
  go_enter Tryd.func3, Tryd.ntmps3
  go_wp2_with fail
  refine (AWH.out _ (HT.out.below (by go_grown))).mono ?_
  rintro e w1 ⟨rfl, hb1⟩
  have A0 := Lib.hid (Holds2.below (by simp [Holds2, go_sem]) hb1 : Holds2 w1 w.heap.size h l)
  have A1 := Lib.hid (HoldsD.below (by simp [HoldsD, go_sem]) hb1 : HoldsD w1 (w.heap.size + 1) n rh rl rx)
  have B1 : Below w.heap.size w w1 := bstep (by go_grown) hb1
  clear hb1 AWH
  obtain ⟨a1, a2, -, -, a5⟩ := A0.out
  have E11 := Lib.hid (HoldsD.new4 rfl : HoldsD (w1.alloc (.cells #[.bool neg, .int .u64 (h : Int), .int .u64 (l : Int), .int .i64 ex] 28)) w1.heap.size neg h l ex)
  replace A1 := Lib.hid (A1.out.alloc (.cells #[.bool neg, .int .u64 (h : Int), .int .u64 (l : Int), .int .i64 ex] 28))
  have A0' := Lib.hid (A0.out.alloc (.cells #[.bool neg, .int .u64 (h : Int), .int .u64 (l : Int), .int .i64 ex] 28))
  replace B1 := ballD1 B1 (.cells #[.bool neg, .int .u64 (h : Int), .int .u64 (l : Int), .int .i64 ex] 28)
  go_upto_region 4 with fail
  obtain ⟨g11, hg⟩ : ∃ g, g = w1.heap.size := ⟨_, rfl⟩
  rw [← hg] at E11
  rw [← hg]
  generalize w1.alloc (.cells #[.bool neg, .int .u64 (h : Int), .int .u64 (l : Int), .int .i64 ex] 28) = V1 at *
  clear hg A0 a1 a2 a5
  obtain ⟨a1, a2, -, -, a5⟩ := A0'.out
  go_wp2_with fail
  refine (NN.out _).mono ?_
  rintro e w2 ⟨vn, rfl, RN, hb⟩
  obtain ⟨AN, cN, rfl⟩ := slice_of RN
  replace E11 := Lib.hid (E11.out.below hb)
  replace A1 := Lib.hid (A1.out.below hb)
  replace B1 := bstep B1 hb
  clear hb RN a1 a2 a5 A0' NN
  obtain ⟨ln, hln⟩ : ∃ m, m = (Dg.dg (nv h l)).length := ⟨_, rfl⟩
  rw [← hln] at HL
  rw [← hln]
  clear hln
  go_upto_region 5 with fail
  obtain ⟨⟨a1, a2, a3, a4⟩, -, a9⟩ := E11.out
  go_cut [51] (fun t W => t = .bool false ∧ Below w2.heap.size w2 W)
  case first =>
    obtain ⟨ll1, ll2⟩ := HL.out
    have CC := Lib.hid (And.intro ll1 ll2)
    clear ll1 ll2 HL
    by_cases c1 : ln ≤ 34
    · have t1 : decide (ln ≤ 34) = true := decide_eq_true c1
      have t1' : decide ((ln : Int) ≤ 34) = true := decide_eq_true (by omega)
      have m1 := CC.out.1.1 c1
      by_cases c2 : -6176 ≤ ex
      · have t2 : decide (-6176 ≤ ex) = true := decide_eq_true c2
        by_cases c3 : ex ≤ 6111
        · have t3 : decide (ex ≤ 6111) = true := decide_eq_true c3
          cases neg
          · have mm : mayD false (nv h l) ex = true := mayD_of ⟨m1, c2, c3⟩ (fun _ => rfl)
            clear m1 c1 c2 c3
            rw [mm] at MY
            clear CC
            go_wp2_with fail
            refine (MY.out _ (HT.out.below B1)).mono ?_
            rintro e w3 ⟨rfl, hb⟩
            clear a1 a2 a3 a4 a9 MY
            go_wp2
            go_meet
            case rel => exact ⟨rfl, hb⟩
          · by_cases c4 : ln = 0
            · have t4 : ((ln : Int) == 0) = true := by rw [c4]; rfl
              have mm : mayD true (nv h l) ex = false := by unfold mayD; rw [decide_eq_true (CC.out.2.1 c4)]; rfl
              clear m1 c1 c2 c3 c4
              rw [mm] at MY
              clear CC
              go_wp2_with fail
              refine (MY.out _ (HT.out.below B1)).mono ?_
              rintro e w3 ⟨rfl, hb⟩
              clear a1 a2 a3 a4 a9 MY
              go_wp2
              go_meet
              case rel => exact ⟨rfl, hb⟩
            · have t4 : ((ln : Int) == 0) = false := by simp; omega
              have mm : mayD true (nv h l) ex = true := mayD_of ⟨m1, c2, c3⟩ (fun k => absurd (CC.out.2.2 k) c4)
              clear m1 c1 c2 c3 c4
              rw [mm] at MY
              clear CC
              go_wp2_with fail
              refine (MY.out _ (HT.out.below B1)).mono ?_
              rintro e w3 ⟨rfl, hb⟩
              clear a1 a2 a3 a4 a9 MY
              go_wp2
              go_meet
              case rel => exact ⟨rfl, hb⟩
        · have t3 : decide (ex ≤ 6111) = false := decide_eq_false c3
          have mm : mayD neg (nv h l) ex = false := by unfold mayD; rw [t3]; simp
          clear m1 c1 c2 c3
          rw [mm] at MY
          clear CC
          go_wp2_with fail
          refine (MY.out _ (HT.out.below B1)).mono ?_
          rintro e w3 ⟨rfl, hb⟩
          clear a1 a2 a3 a4 a9 MY
          go_wp2
          go_meet
          case rel => exact ⟨rfl, hb⟩
      · have t2 : decide (-6176 ≤ ex) = false := decide_eq_false c2
        have mm : mayD neg (nv h l) ex = false := by unfold mayD; rw [t2]; simp
        clear m1 c1 c2
        rw [mm] at MY
        clear CC
        go_wp2_with fail
        refine (MY.out _ (HT.out.below B1)).mono ?_
        rintro e w3 ⟨rfl, hb⟩
        clear a1 a2 a3 a4 a9 MY
        go_wp2
        go_meet
        case rel => exact ⟨rfl, hb⟩
    · have t1 : decide (ln ≤ 34) = false := decide_eq_false c1
      have t1' : decide ((ln : Int) ≤ 34) = false := decide_eq_false (by omega)
      have mm : mayD neg (nv h l) ex = false := by unfold mayD; rw [decide_eq_false (fun k => c1 (CC.out.1.2 k))]; simp
      clear c1
      rw [mm] at MY
      clear CC
      go_wp2_with fail
      refine (MY.out _ (HT.out.below B1)).mono ?_
      rintro e w3 ⟨rfl, hb⟩
      clear a1 a2 a3 a4 a9 MY
      go_wp2
      go_meet
      case rel => exact ⟨rfl, hb⟩
  case rest =>
  obtain ⟨rfl, hb⟩ := hcut
  replace A1 := Lib.hid (A1.out.below hb)
  replace B1 := bstep B1 hb
  clear hb a1 a2 a3 a4 a9 E11 MY HL
  generalize wc = V2 at *
  go_wp2_with fail
  refine (IN.out _).mono ?_
  rintro e w3 ⟨n3, h3, l3, x3, ⟨rfl, rfl, rfl, rfl⟩, rfl, hb⟩
  replace A1 := Lib.hid ((A1.out.below hb).alloc (.cells #[.bool n3, .int .u64 0, .int .u64 (l3 : Int), .int .i64 0] 28))
  have E13 := Lib.hid (show HoldsD (w3.alloc (.cells #[.bool n3, .int .u64 0, .int .u64 (l3 : Int), .int .i64 0] 28)) w3.heap.size n3 0 l3 0 from HoldsD.new4 rfl)
  replace B1 := ballD1 (bstep B1 hb) (.cells #[.bool n3, .int .u64 0, .int .u64 (l3 : Int), .int .i64 0] 28)
  clear hb IN
  go_upto_region 8 with fail
  obtain ⟨g13, hg⟩ : ∃ g, g = w3.heap.size := ⟨_, rfl⟩
  rw [← hg] at E13
  rw [← hg]
  generalize w3.alloc (.cells #[.bool n3, .int .u64 0, .int .u64 (l3 : Int), .int .i64 0] 28) = V3 at *
  clear hg
  obtain ⟨⟨a1, a2, a3, a4⟩, -, a9⟩ := E13.out
  go_wp2_with fail
  refine (IW.out _ (HT.out.below B1)).mono ?_
  rintro e w4 ⟨rfl, hb⟩
  replace A1 := Lib.hid (A1.out.below hb)
  replace E13 := Lib.hid (E13.out.below hb)
  replace B1 := bstep B1 hb
  clear hb a1 a2 a3 a4 a9 IW
  obtain ⟨⟨a1, a2, a3, a4⟩, -, a9⟩ := A1.out
  go_wp2_with fail
  refine (MK.out _ (HT.out.below B1)).mono ?_
  rintro e w5 ⟨na, ch, cl, ea, NK, rfl, hb⟩
  have HNK := Lib.hid (show NumOk na ch cl ea from NK)
  replace E13 := Lib.hid ((E13.out.below hb).alloc (.cells #[.bool na, .int .u64 (ch : Int), .int .u64 (cl : Int), .int .i64 ea] 28))
  have E16 := Lib.hid (HoldsD.new4 rfl : HoldsD (w5.alloc (.cells #[.bool na, .int .u64 (ch : Int), .int .u64 (cl : Int), .int .i64 ea] 28)) w5.heap.size na ch cl ea)
  replace B1 := ballD1 (bstep B1 hb) (.cells #[.bool na, .int .u64 (ch : Int), .int .u64 (cl : Int), .int .i64 ea] 28)
  clear hb NK a1 a2 a3 a4 a9 A1 MK
  go_upto_region 10 with fail
  obtain ⟨g16, hg⟩ : ∃ g, g = w5.heap.size := ⟨_, rfl⟩
  rw [← hg] at E16
  rw [← hg]
  generalize w5.alloc (.cells #[.bool na, .int .u64 (ch : Int), .int .u64 (cl : Int), .int .i64 ea] 28) = V5 at *
  clear hg
  obtain ⟨⟨a1, a2, a3, a4⟩, -, a9⟩ := E16.out
  go_wp2_with fail
  refine (ref_any na ch cl ea HNK.out.1 _).mono ?_
  rintro e w6 ⟨nf, vf, xf, ⟨q1, q2, RF⟩, rfl, hb⟩
  subst q1 q2
  obtain ⟨AR, cR, rfl⟩ := slice_of RF
  have HRF := Lib.hid (RF.alloc' (.cells #[.bool nf, .slice AR (Dg.dg (nv ch cl)).length cR, .int .i64 xf] 37))
  replace E13 := Lib.hid ((E13.out.below hb).alloc (.cells #[.bool nf, .slice AR (Dg.dg (nv ch cl)).length cR, .int .i64 xf] 37))
  replace E16 := Lib.hid ((E16.out.below hb).alloc (.cells #[.bool nf, .slice AR (Dg.dg (nv ch cl)).length cR, .int .i64 xf] 37))
  have E17 := Lib.hid (show HoldsF (w6.alloc (.cells #[.bool nf, .slice AR (Dg.dg (nv ch cl)).length cR, .int .i64 xf] 37)) w6.heap.size nf (.slice AR (Dg.dg (nv ch cl)).length cR) xf from by simp [HoldsF, go_sem])
  replace B1 := ballD1 (bstep B1 hb) (.cells #[.bool nf, .slice AR (Dg.dg (nv ch cl)).length cR, .int .i64 xf] 37)
  clear hb RF a1 a2 a3 a4 a9
  go_upto_region 11 with fail
  obtain ⟨g17, hg⟩ : ∃ g, g = w6.heap.size := ⟨_, rfl⟩
  rw [← hg] at E17
  rw [← hg]
  generalize w6.alloc (.cells #[.bool nf, .slice AR (Dg.dg (nv ch cl)).length cR, .int .i64 xf] 37) = V6 at *
  clear hg
  obtain ⟨sg, hsg⟩ : ∃ s, s = sgn nf (nv ch cl) := ⟨_, rfl⟩
  obtain ⟨⟨p1, p2, p3⟩, -, p9⟩ := E17.out
  have HC0 := Lib.hid (len34 (nv ch cl)).2
  obtain ⟨lf, hlf⟩ : ∃ m, m = (Dg.dg (nv ch cl)).length := ⟨_, rfl⟩
  rw [← hlf] at HC0 p2
  have HSG := Lib.hid hsg
  go_upto_if 64 with fail
  go_cut [18] (fun t W => t = .int .i64 sg ∧ W = V6)
  case first =>
    cases nf
    · by_cases c0 : lf = 0
      · have t0 : ((lf : Int) == 0) = true := by rw [c0]; rfl
        have y0 : sg = 0 := by rw [hsg]; unfold sgn; rw [if_pos (HC0.out.1 c0)]
        subst y0
        clear hsg c0
        go_wp2
        go_meet
        case rel => exact ⟨rfl, rfl⟩
      · have t0 : ((lf : Int) == 0) = false := by simp; omega
        have y0 : sg = 1 := by rw [hsg]; unfold sgn; rw [if_neg (fun k => c0 (HC0.out.2 k))]; rfl
        subst y0
        clear hsg c0
        go_wp2
        go_meet
        case rel => exact ⟨rfl, rfl⟩
    · have y0 : sg = -1 := by
        rw [hsg]
        unfold sgn
        rw [if_neg (fun k => by have := HNK.out.2.2 k; cases this)]; rfl
      subst y0
      clear hsg
      go_wp2
      go_meet
      case rel => exact ⟨rfl, rfl⟩
  case rest =>
  obtain ⟨rfl, rfl⟩ := hcut
  clear hsg hlf HC0 p1 p2 p3 p9 lf
  go_upto_region 16 with fail
  have SG := Lib.hid (sign_any nf ch cl xf)
  rw [← HSG.out] at SG
  obtain ⟨bz, hbz⟩ : ∃ b, b = decide (nv ch cl = 0) := ⟨_, rfl⟩
  have ZD := Lib.hid (zeroD_any nf ch cl xf)
  rw [← hbz] at ZD
  have t1 : (sg == 0) = bz := by
    rw [HSG.out, hbz]
    unfold sgn
    by_cases k : nv ch cl = 0
    · rw [if_pos k, decide_eq_true k]; rfl
    · rw [if_neg k, decide_eq_false k]; cases nf <;> rfl
  have L40 := Lib.hid (Dg.dg_length_le HNK.out.2.1.1)
  obtain ⟨sn, hsn⟩ : ∃ s, s = (!nf && !decide (nv ch cl = 0)) := ⟨_, rfl⟩
  have NG := Lib.hid (neg_any nf ch cl xf)
  rw [← hsn] at NG
  have RN := Lib.hid (fun W (h : Row W (.slice AR (Dg.dg (nv ch cl)).length cR) (Dg.dg (nv ch cl))) => rneg_any nf (.slice AR (Dg.dg (nv ch cl)).length cR) (nv ch cl) xf (by have := L40.out; omega) W h)
  rw [← hsn] at RN
  have LK := Lib.hid (fun W (h : Row W (.slice AR (Dg.dg (nv ch cl)).length cR) (Dg.dg (nv ch cl))) => like_yes sn ch cl xf (.slice AR (Dg.dg (nv ch cl)).length cR) HNK.out.1 W h)
  have AB := Lib.hid (abs_any nf ch cl xf)
  obtain ⟨sa, hsa⟩ : ∃ s, s = sgn false (nv ch cl) := ⟨_, rfl⟩
  have SA := Lib.hid (sign_any false ch cl xf)
  rw [← hsa] at SA
  have t2 : decide (sa < 0) = false := decide_eq_false (by rw [hsa]; unfold sgn; split <;> simp)
  have CA := Lib.hid (cmp_dec false ch cl xf nf ch cl xf HNK.out.1 HNK.out.1 HNK.out.2.1.2.1 HNK.out.2.1.2.2 HNK.out.2.1.2.1 HNK.out.2.1.2.2)
  obtain ⟨cc, hcc⟩ : ∃ c, c = cmpD false (nv ch cl) xf nf (nv ch cl) xf := ⟨_, rfl⟩
  rw [← hcc] at CA
  have t3 : decide (cc < 0) = false := decide_eq_false (by
    rw [hcc, cmpD_val HNK.out.2.1 HNK.out.2.1, cmpZ_lt]
    unfold vlZ
    cases nf <;> simp only [Bool.false_eq_true, if_false, if_true] <;> omega)
  clear hbz hsn hsa hcc
  obtain ⟨⟨a1, a2, a3, a4⟩, -, a9⟩ := E13.out
  obtain ⟨⟨b1, b2, b3, b4⟩, -, b9⟩ := E16.out
  obtain ⟨⟨c1, c2, c3⟩, -, c9⟩ := E17.out
  generalize wc = V7 at *
  go_cut [119] (fun t W => t = .bool false ∧ Below V7.heap.size V7 W)
  case first =>
    go_region_held3 (fun w' => w'.cell? ⟨g13, 0, none⟩ = some (.bool n3) ∧ w'.cell? ⟨g13, 1, none⟩ = some (.int .u64 ((0 : Nat) : Int)) ∧ w'.cell? ⟨g13, 2, none⟩ = some (.int .u64 (l3 : Int)) ∧ w'.cell? ⟨g13, 3, none⟩ = some (.int .i64 0) ∧ w'.cell? ⟨g16, 0, none⟩ = some (.bool nf) ∧ w'.cell? ⟨g16, 1, none⟩ = some (.int .u64 (ch : Int)) ∧ w'.cell? ⟨g16, 2, none⟩ = some (.int .u64 (cl : Int)) ∧ w'.cell? ⟨g16, 3, none⟩ = some (.int .i64 xf) ∧ w'.cell? ⟨g17, 0, none⟩ = some (.bool nf) ∧ w'.cell? ⟨g17, 1, none⟩ = some (.slice AR (Dg.dg (nv ch cl)).length cR) ∧ w'.cell? ⟨g17, 2, none⟩ = some (.int .i64 xf))
      (repeat' (first | (with_reducible assumption) | (with_reducible refine keep443d ?_) | (with_reducible exact ⟨a1, a2, a3, a4, b1, b2, b3, b4, c1, c2, c3⟩) | (with_reducible refine keep443 (by with_reducible assumption) ?_)))
      (first
        | (go_at_call 11; (refine (IM.out _ ?_).mono ?_); (exact HT.out.below (by repeat' (first | (with_reducible exact B1) | (with_reducible refine Below.drew ?_) | (with_reducible refine bstep ?_ (by with_reducible assumption))))); rintro e wC ⟨rfl, hbC⟩)
        | (go_at_call 16; (first | (with_reducible refine (SG.out _).mono ?_) | (with_reducible refine (SA.out _).mono ?_)); rintro e wC ⟨rfl, hbC⟩)
        | (go_at_call 17; (with_reducible refine (ZD.out _).mono ?_); rintro e wC ⟨rfl, hbC⟩)
        | (go_at_call 19; (with_reducible refine (NG.out _).mono ?_); rintro e wC ⟨nC, hC, lC, xC, ⟨q1, q2, q3, q4⟩, rfl, hbC⟩; replace q1 := q1.symm; replace q2 := q2.symm; replace q3 := q3.symm; replace q4 := q4.symm; subst q1 q2 q3 q4)
        | (go_at_call 20; (with_reducible refine (RN.out _ ?_).mono ?_); (exact (by repeat' (first | (with_reducible exact HRF.out) | (with_reducible refine Row.drew2 ?_) | (with_reducible refine Row.below ?_ (by with_reducible assumption))))); rintro e wC ⟨nC, vC, xC, ⟨q1, q2, q3⟩, rfl, hbC⟩; replace q1 := q1.symm; replace q2 := q2.symm; replace q3 := q3.symm; subst q1 q2 q3)
        | (go_at_call 18; (with_reducible refine (LK.out _ ?_).mono ?_); (exact (by repeat' (first | (with_reducible exact HRF.out) | (with_reducible refine Row.drew2 ?_) | (with_reducible refine Row.below ?_ (by with_reducible assumption))))); rintro e wC ⟨rfl, hbC⟩)
        | (go_at_call 21; (with_reducible refine (AB.out _).mono ?_); rintro e wC ⟨nC, hC, lC, xC, ⟨q1, q2, q3, q4⟩, rfl, hbC⟩; replace q2 := q2.symm; replace q3 := q3.symm; replace q4 := q4.symm; subst q1 q2 q3 q4)
        | (go_at_call 22; (with_reducible refine (CA.out _ ?_).mono ?_); (exact HT.out.below (by repeat' (first | (with_reducible exact B1) | (with_reducible refine Below.drew ?_) | (with_reducible refine bstep ?_ (by with_reducible assumption))))); rintro e wC ⟨rfl, hbC⟩))
    all_goals
      go_wp2
      go_meet
      case rel =>
        refine ⟨rfl, ?_⟩
        repeat' (first | (with_reducible exact Below.refl _ _) | (with_reducible refine Below.drew ?_) | (with_reducible refine bstep ?_ (by with_reducible assumption)))
  case rest =>
  obtain ⟨rfl, hb⟩ := hcut
  replace E16 := Lib.hid (E16.out.below hb)
  replace E17 := Lib.hid (E17.out.below hb)
  replace HRF := Lib.hid (HRF.out.below hb)
  replace B1 := bstep B1 hb
  clear hb a1 a2 a3 a4 a9 b1 b2 b3 b4 b9 c1 c2 c3 c9 E13 SG ZD NG RN LK AB SA CA IM t1 t2 t3 HSG
  generalize wc = V8 at *
  have WH := Lib.hid (whole_any nf ch cl xf HNK.out.1 HNK.out.2.1.2.1 HNK.out.2.1.2.2)
  have IG := Lib.hid (fun W (h : Row W (.slice AR (Dg.dg (nv ch cl)).length cR) (Dg.dg (nv ch cl))) => integral_any nf (.slice AR (Dg.dg (nv ch cl)).length cR) (nv ch cl) xf HNK.out.2.1.1 HNK.out.2.1.2.1 HNK.out.2.1.2.2 W h)
  rw [← inB_wh HNK.out.2.1.1 HNK.out.2.2] at IG
  obtain ⟨wb, hwb⟩ : ∃ b, b = whB nf (nv ch cl) xf := ⟨_, rfl⟩
  obtain ⟨wv, hwv⟩ : ∃ v, v = whV nf (nv ch cl) xf := ⟨_, rfl⟩
  rw [← hwb] at IG
  rw [← hwb, ← hwv] at WH
  have HWB := Lib.hid hwb
  have HWV := Lib.hid hwv
  clear hwb hwv
  obtain ⟨⟨b1, b2, b3, b4⟩, -, b9⟩ := E16.out
  go_wp2_with fail
  refine (WH.out _ (HT.out.below B1)).mono ?_
  rintro e V9 ⟨rfl, hb⟩
  replace E16 := Lib.hid (E16.out.below hb)
  replace E17 := Lib.hid (E17.out.below hb)
  replace HRF := Lib.hid (HRF.out.below hb)
  replace B1 := bstep B1 hb
  clear hb b1 b2 b3 b4 b9 WH
  obtain ⟨⟨b1, b2, b3, b4⟩, -, b9⟩ := E16.out
  obtain ⟨⟨c1, c2, c3⟩, -, c9⟩ := E17.out
  cases wb
  · have y0 : wv = 0 := by rw [HWV.out]; unfold whV; rw [← HWB.out]; rfl
    subst y0
    clear HWV HWB
    go_upto_region 19 with fail
    refine wp_region_held_drew (S := fun w' => w'.cell? ⟨g16, 0, none⟩ = some (.bool nf) ∧ w'.cell? ⟨g16, 1, none⟩ = some (.int .u64 (ch : Int)) ∧ w'.cell? ⟨g16, 2, none⟩ = some (.int .u64 (cl : Int)) ∧ w'.cell? ⟨g16, 3, none⟩ = some (.int .i64 xf) ∧ w'.cell? ⟨g17, 0, none⟩ = some (.bool nf) ∧ w'.cell? ⟨g17, 1, none⟩ = some (.slice AR (Dg.dg (nv ch cl)).length cR) ∧ w'.cell? ⟨g17, 2, none⟩ = some (.int .i64 xf) ∧ Below V9.heap.size V9 w') (by kernel_rfl) ?_ (fun hHeld => ?_)
    · exact keep7B ⟨b1, b2, b3, b4, c1, c2, c3⟩ (Below.refl _ _).drew
    refine wpAnyH_take (i := 0) (oi := { dst := some 125, op := Go.Op.move (Go.Operand.tmp 20), type := 4, pos := "law.go:120", after := #[], guard := none }) (v := ?_) rfl (by kernel_rfl) (by kernel_rfl) (by kernel_rfl) (fun _ _ _ h => h) (Or.inl ⟨by rfl, ?_⟩) (by assumption) ?_
    rotate_left
    · intro w hSw
      try dsimp only at hSw
      go_simp
      try with_reducible rfl
    try simp only [Act.put, List.setIfInBounds_toArray, List.set_cons_zero, List.set_cons_succ]
    refine wpAnyH_take (i := 1) (oi := { dst := some 126, op := Go.Op.load 37 (Go.Operand.tmp 17), type := 37, pos := "law.go:120", after := #[], guard := none }) (v := ?_) rfl (by kernel_rfl) (by kernel_rfl) (by kernel_rfl) (fun _ _ _ h => h) (Or.inl ⟨by rfl, ?_⟩) (by assumption) ?_
    rotate_left
    · intro w hSw
      try dsimp only at hSw
      go_simp
      try with_reducible rfl
    try simp only [Act.put, List.setIfInBounds_toArray, List.set_cons_zero, List.set_cons_succ]
    refine wpAnyH_ready (rs := [2]) (by kernel_rfl) (by simp) ?_
    refine AllReadyH.cons (o := { dst := some 127, op := Go.Op.call { callee := Go.Callee.value (Go.Operand.func 23), args := #[Go.Operand.tmp 126], argTypes := #[37] }, type := 4, pos := "law.go:120", after := #[{ on := 1, ground := Go.Ground.data }], guard := none }) rfl (fun K hK => ?_) AllReadyH.nil
    go_simp
    refine (IG.out _ (HRF.out.below hHeld.2.2.2.2.2.2.2)).mono ?_
    rintro e v1 ⟨rfl, hbv1⟩
    have HBx := Lib.hid (bstep hHeld.2.2.2.2.2.2.2 hbv1)
    clear hHeld hbv1
    refine hK.out _ _ ?_ (fun hHeld => ?_)
    · exact keep7B ⟨b1, b2, b3, b4, c1, c2, c3⟩ HBx.out
    clear hK K HBx
    try simp only [Act.put, List.setIfInBounds_toArray, List.set_cons_zero, List.set_cons_succ]
    refine wpAnyH_take (i := 3) (oi := { dst := some 128, op := Go.Op.binOp Go.BinOp.eql 4 (Go.Operand.tmp 125) (Go.Operand.tmp 127) 4, type := 4, pos := "law.go:120", after := #[{ on := 0, ground := Go.Ground.data }, { on := 2, ground := Go.Ground.data }], guard := none }) (v := ?_) rfl (by kernel_rfl) (by kernel_rfl) (by kernel_rfl) (fun _ _ _ h => h) (Or.inl ⟨by rfl, ?_⟩) (by assumption) ?_
    rotate_left
    · intro w hSw
      try dsimp only at hSw
      go_simp
      try with_reducible rfl
    try simp only [Act.put, List.setIfInBounds_toArray, List.set_cons_zero, List.set_cons_succ]
    refine wpAnyH_take (i := 4) (oi := { dst := some 129, op := Go.Op.move (Go.Operand.tmp 128), type := 4, pos := "law.go:120", after := #[{ on := 3, ground := Go.Ground.data }, { on := 2, ground := Go.Ground.chain }], guard := none }) (v := ?_) rfl (by kernel_rfl) (by kernel_rfl) (by kernel_rfl) (fun _ _ _ h => h) (Or.inl ⟨by rfl, ?_⟩) (by assumption) ?_
    rotate_left
    · intro w hSw
      try dsimp only at hSw
      go_simp
      try with_reducible rfl
    try simp only [Act.put, List.setIfInBounds_toArray, List.set_cons_zero, List.set_cons_succ]
    refine wpAnyH_take (i := 5) (oi := { dst := some 130, op := Go.Op.move (Go.Operand.tmp 20), type := 4, pos := "law.go:120", after := #[{ on := 4, ground := Go.Ground.guard }], guard := some (4, true) }) (v := ?_) rfl (by kernel_rfl) (by kernel_rfl) (by kernel_rfl) (fun _ _ _ h => h) (Or.inl ⟨by rfl, ?_⟩) (by assumption) ?_
    rotate_left
    · intro w hSw
      try dsimp only at hSw
      go_simp
      try with_reducible rfl
    try simp only [Act.put, List.setIfInBounds_toArray, List.set_cons_zero, List.set_cons_succ]
    refine wpAnyH_take (i := 6) (oi := { dst := some 131, op := Go.Op.unOp Go.UnOp.not 4 (Go.Operand.tmp 130), type := 4, pos := "law.go:120", after := #[{ on := 5, ground := Go.Ground.data }, { on := 4, ground := Go.Ground.guard }], guard := some (4, true) }) (v := ?_) rfl (by kernel_rfl) (by kernel_rfl) (by kernel_rfl) (fun _ _ _ h => h) (Or.inl ⟨by rfl, ?_⟩) (by assumption) ?_
    rotate_left
    · intro w hSw
      try dsimp only at hSw
      go_simp
      try with_reducible rfl
    try simp only [Act.put, List.setIfInBounds_toArray, List.set_cons_zero, List.set_cons_succ]
    refine wpAnyH_take (i := 7) (oi := { dst := some 132, op := Go.Op.move (Go.Operand.tmp 131), type := 4, pos := "law.go:120", after := #[{ on := 6, ground := Go.Ground.data }, { on := 4, ground := Go.Ground.chain }, { on := 4, ground := Go.Ground.guard }], guard := some (4, true) }) (v := ?_) rfl (by kernel_rfl) (by kernel_rfl) (by kernel_rfl) (fun _ _ _ h => h) (Or.inl ⟨by rfl, ?_⟩) (by assumption) ?_
    rotate_left
    · intro w hSw
      try dsimp only at hSw
      go_simp
      try with_reducible rfl
    try simp only [Act.put, List.setIfInBounds_toArray, List.set_cons_zero, List.set_cons_succ]
    refine wpAnyH_take (i := 8) (oi := { dst := some 133, op := Go.Op.move (Go.Operand.tmp 19), type := 3, pos := "law.go:120", after := #[{ on := 7, ground := Go.Ground.guard }], guard := some (7, true) }) (v := ?_) rfl (by kernel_rfl) (by kernel_rfl) (by kernel_rfl) (fun _ _ _ h => h) (Or.inl ⟨by rfl, ?_⟩) (by assumption) ?_
    rotate_left
    · intro w hSw
      try dsimp only at hSw
      go_simp
      try with_reducible rfl
    try simp only [Act.put, List.setIfInBounds_toArray, List.set_cons_zero, List.set_cons_succ]
    refine wpAnyH_take (i := 9) (oi := { dst := some 134, op := Go.Op.binOp Go.BinOp.eql 3 (Go.Operand.tmp 133) (Go.Operand.const (Go.Value.int Go.IntKind.i64 0)) 3, type := 4, pos := "law.go:120", after := #[{ on := 8, ground := Go.Ground.data }, { on := 7, ground := Go.Ground.guard }], guard := some (7, true) }) (v := ?_) rfl (by kernel_rfl) (by kernel_rfl) (by kernel_rfl) (fun _ _ _ h => h) (Or.inl ⟨by rfl, ?_⟩) (by assumption) ?_
    rotate_left
    · intro w hSw
      try dsimp only at hSw
      go_simp
      try with_reducible rfl
    try simp only [Act.put, List.setIfInBounds_toArray, List.set_cons_zero, List.set_cons_succ]
    refine wpAnyH_take (i := 10) (oi := { dst := some 135, op := Go.Op.pick (Go.Operand.tmp 132) (Go.Operand.tmp 134) (Go.Operand.const (Go.Value.bool false)), type := 4, pos := "law.go:120", after := #[{ on := 7, ground := Go.Ground.data }, { on := 9, ground := Go.Ground.data }, { on := 4, ground := Go.Ground.guard }], guard := some (4, true) }) (v := ?_) rfl (by kernel_rfl) (by kernel_rfl) (by kernel_rfl) (fun _ _ _ h => h) (Or.inl ⟨by rfl, ?_⟩) (by assumption) ?_
    rotate_left
    · intro w hSw
      try dsimp only at hSw
      go_simp
      try with_reducible rfl
    try simp only [Act.put, List.setIfInBounds_toArray, List.set_cons_zero, List.set_cons_succ]
    refine wpAnyH_take (i := 11) (oi := { dst := some 136, op := Go.Op.move (Go.Operand.tmp 135), type := 4, pos := "law.go:120", after := #[{ on := 10, ground := Go.Ground.data }, { on := 7, ground := Go.Ground.chain }, { on := 4, ground := Go.Ground.guard }], guard := some (4, true) }) (v := ?_) rfl (by kernel_rfl) (by kernel_rfl) (by kernel_rfl) (fun _ _ _ h => h) (Or.inl ⟨by rfl, ?_⟩) (by assumption) ?_
    rotate_left
    · intro w hSw
      try dsimp only at hSw
      go_simp
      try with_reducible rfl
    try simp only [Act.put, List.setIfInBounds_toArray, List.set_cons_zero, List.set_cons_succ]
    refine wpAnyH_take (i := 12) (oi := { dst := some 137, op := Go.Op.move (Go.Operand.tmp 20), type := 4, pos := "law.go:120", after := #[{ on := 11, ground := Go.Ground.guard }], guard := some (11, false) }) (v := undef) rfl (by kernel_rfl) (by kernel_rfl) (by kernel_rfl) (fun _ _ _ h => h) (Or.inr ⟨by rfl, rfl⟩) (by assumption) ?_
    try simp only [Act.put, List.setIfInBounds_toArray, List.set_cons_zero, List.set_cons_succ]
    refine wpAnyH_take (i := 13) (oi := { dst := some 138, op := Go.Op.move (Go.Operand.tmp 137), type := 4, pos := "law.go:120", after := #[{ on := 12, ground := Go.Ground.data }, { on := 11, ground := Go.Ground.chain }, { on := 11, ground := Go.Ground.guard }], guard := some (11, false) }) (v := undef) rfl (by kernel_rfl) (by kernel_rfl) (by kernel_rfl) (fun _ _ _ h => h) (Or.inr ⟨by rfl, rfl⟩) (by assumption) ?_
    try simp only [Act.put, List.setIfInBounds_toArray, List.set_cons_zero, List.set_cons_succ]
    refine wpAnyH_take (i := 14) (oi := { dst := some 139, op := Go.Op.move (Go.Operand.tmp 19), type := 3, pos := "law.go:120", after := #[{ on := 13, ground := Go.Ground.guard }], guard := some (13, true) }) (v := undef) rfl (by kernel_rfl) (by kernel_rfl) (by kernel_rfl) (fun _ _ _ h => h) (Or.inr ⟨by rfl, rfl⟩) (by assumption) ?_
    try simp only [Act.put, List.setIfInBounds_toArray, List.set_cons_zero, List.set_cons_succ]
    refine wpAnyH_take (i := 15) (oi := { dst := some 140, op := Go.Op.call { callee := Go.Callee.value (Go.Operand.func 12), args := #[Go.Operand.tmp 139], argTypes := #[3] }, type := 28, pos := "law.go:120", after := #[{ on := 14, ground := Go.Ground.data }, { on := 13, ground := Go.Ground.chain }, { on := 13, ground := Go.Ground.guard }], guard := some (13, true) }) (v := undef) rfl (by kernel_rfl) (by kernel_rfl) (by kernel_rfl) (fun _ _ _ h => h) (Or.inr ⟨by rfl, rfl⟩) (by assumption) ?_
    try simp only [Act.put, List.setIfInBounds_toArray, List.set_cons_zero, List.set_cons_succ]
    refine wpAnyH_take (i := 16) (oi := { dst := some 141, op := Go.Op.load 28 (Go.Operand.tmp 16), type := 28, pos := "law.go:120", after := #[{ on := 13, ground := Go.Ground.guard }], guard := some (13, true) }) (v := undef) rfl (by kernel_rfl) (by kernel_rfl) (by kernel_rfl) (fun _ _ _ h => h) (Or.inr ⟨by rfl, rfl⟩) (by assumption) ?_
    try simp only [Act.put, List.setIfInBounds_toArray, List.set_cons_zero, List.set_cons_succ]
    refine wpAnyH_take (i := 17) (oi := { dst := some 142, op := Go.Op.call { callee := Go.Callee.value (Go.Operand.func 22), args := #[Go.Operand.tmp 140, Go.Operand.tmp 141], argTypes := #[28, 28] }, type := 3, pos := "law.go:120", after := #[{ on := 15, ground := Go.Ground.data }, { on := 16, ground := Go.Ground.data }, { on := 15, ground := Go.Ground.chain }, { on := 13, ground := Go.Ground.guard }], guard := some (13, true) }) (v := undef) rfl (by kernel_rfl) (by kernel_rfl) (by kernel_rfl) (fun _ _ _ h => h) (Or.inr ⟨by rfl, rfl⟩) (by assumption) ?_
    try simp only [Act.put, List.setIfInBounds_toArray, List.set_cons_zero, List.set_cons_succ]
    refine wpAnyH_take (i := 18) (oi := { dst := some 143, op := Go.Op.binOp Go.BinOp.eql 3 (Go.Operand.tmp 142) (Go.Operand.const (Go.Value.int Go.IntKind.i64 0)) 3, type := 4, pos := "law.go:120", after := #[{ on := 17, ground := Go.Ground.data }, { on := 13, ground := Go.Ground.guard }], guard := some (13, true) }) (v := undef) rfl (by kernel_rfl) (by kernel_rfl) (by kernel_rfl) (fun _ _ _ h => h) (Or.inr ⟨by rfl, rfl⟩) (by assumption) ?_
    try simp only [Act.put, List.setIfInBounds_toArray, List.set_cons_zero, List.set_cons_succ]
    refine wpAnyH_take (i := 19) (oi := { dst := some 144, op := Go.Op.pick (Go.Operand.tmp 138) (Go.Operand.tmp 143) (Go.Operand.const (Go.Value.bool false)), type := 4, pos := "law.go:120", after := #[{ on := 13, ground := Go.Ground.data }, { on := 18, ground := Go.Ground.data }, { on := 11, ground := Go.Ground.guard }], guard := some (11, false) }) (v := undef) rfl (by kernel_rfl) (by kernel_rfl) (by kernel_rfl) (fun _ _ _ h => h) (Or.inr ⟨by rfl, rfl⟩) (by assumption) ?_
    try simp only [Act.put, List.setIfInBounds_toArray, List.set_cons_zero, List.set_cons_succ]
    refine wpAnyH_take (i := 20) (oi := { dst := some 145, op := Go.Op.pick (Go.Operand.tmp 136) (Go.Operand.const (Go.Value.bool true)) (Go.Operand.tmp 144), type := 4, pos := "law.go:120", after := #[{ on := 11, ground := Go.Ground.data }, { on := 19, ground := Go.Ground.data }, { on := 4, ground := Go.Ground.guard }], guard := some (4, true) }) (v := ?_) rfl (by kernel_rfl) (by kernel_rfl) (by kernel_rfl) (fun _ _ _ h => h) (Or.inl ⟨by rfl, ?_⟩) (by assumption) ?_
    rotate_left
    · intro w hSw
      try dsimp only at hSw
      go_simp
      try with_reducible rfl
    try simp only [Act.put, List.setIfInBounds_toArray, List.set_cons_zero, List.set_cons_succ]
    refine wpAnyH_take (i := 21) (oi := { dst := some 146, op := Go.Op.pick (Go.Operand.tmp 129) (Go.Operand.tmp 145) (Go.Operand.const (Go.Value.bool false)), type := 4, pos := "law.go:120", after := #[{ on := 4, ground := Go.Ground.data }, { on := 20, ground := Go.Ground.data }], guard := none }) (v := ?_) rfl (by kernel_rfl) (by kernel_rfl) (by kernel_rfl) (fun _ _ _ h => h) (Or.inl ⟨by rfl, ?_⟩) (by assumption) ?_
    rotate_left
    · intro w hSw
      try dsimp only at hSw
      go_simp
      try with_reducible rfl
    try simp only [Act.put, List.setIfInBounds_toArray, List.set_cons_zero, List.set_cons_succ]
    refine wpAnyH_take (i := 22) (oi := { dst := some 10, op := Go.Op.assign (Go.Operand.tmp 146), type := 4, pos := "law.go:120", after := #[{ on := 21, ground := Go.Ground.data }, { on := 17, ground := Go.Ground.chain }, { on := 0, ground := Go.Ground.phase }, { on := 1, ground := Go.Ground.phase }, { on := 2, ground := Go.Ground.phase }, { on := 3, ground := Go.Ground.phase }, { on := 4, ground := Go.Ground.phase }, { on := 5, ground := Go.Ground.phase }, { on := 6, ground := Go.Ground.phase }, { on := 7, ground := Go.Ground.phase }, { on := 8, ground := Go.Ground.phase }, { on := 9, ground := Go.Ground.phase }, { on := 10, ground := Go.Ground.phase }, { on := 11, ground := Go.Ground.phase }, { on := 12, ground := Go.Ground.phase }, { on := 13, ground := Go.Ground.phase }, { on := 14, ground := Go.Ground.phase }, { on := 15, ground := Go.Ground.phase }, { on := 16, ground := Go.Ground.phase }, { on := 17, ground := Go.Ground.phase }, { on := 18, ground := Go.Ground.phase }, { on := 19, ground := Go.Ground.phase }, { on := 20, ground := Go.Ground.phase }, { on := 21, ground := Go.Ground.phase }], guard := none }) (v := ?_) rfl (by kernel_rfl) (by kernel_rfl) (by kernel_rfl) (fun _ _ _ h => h) (Or.inl ⟨by rfl, ?_⟩) (by assumption) ?_
    rotate_left
    · intro w hSw
      try dsimp only at hSw
      go_simp
      try with_reducible rfl
    try simp only [Act.put, List.setIfInBounds_toArray, List.set_cons_zero, List.set_cons_succ]
    refine wpAnyH_done (by kernel_rfl) ?_ _
    go_wp2
    go_ret
    exact ⟨rfl, bstep B1 hHeld.2.2.2.2.2.2.2⟩
  · have y0 : wv = iN nf (wsN (nv ch cl) xf) := by rw [HWV.out]; unfold whV; rw [← HWB.out]; rfl
    obtain ⟨i1, i2⟩ : -9223372036854775808 ≤ wv ∧ wv ≤ 9223372036854775807 := by
      have k := HWB.out
      unfold whB at k
      have k2 := of_decide_eq_true (Bool.and_eq_true_iff.1 k.symm).2
      rw [y0]
      unfold iN
      unfold mostN at k2
      cases nf
      · simp only [Bool.false_eq_true, if_false] at k2 ⊢; omega
      · simp only [if_true] at k2 ⊢; omega
    have IZ := Lib.hid (int_any wv i1 i2)
    have HD0 : NumD wv.natAbs 0 := ⟨Nat.lt_of_le_of_lt (show wv.natAbs ≤ 9223372036854775808 by omega) (by decide), by decide, by decide⟩
    have CZ0 := cmp_dec (decide (wv < 0)) 0 wv.natAbs 0 nf ch cl xf ⟨by decide, by omega⟩ HNK.out.1 (by decide) (by decide) HNK.out.2.1.2.1 HNK.out.2.1.2.2
    rw [show nv 0 wv.natAbs = wv.natAbs from nv01 _, cmpD_val HD0 HNK.out.2.1, y0, wh_same HNK.out.2.1.2.1 HWB.out.symm, ← y0] at CZ0
    have CZ := Lib.hid CZ0
    clear CZ0 HD0 i1 i2 y0 HWV HWB
    generalize decide (wv < 0) = zs2 at *
    generalize wv.natAbs = za2 at *
    go_upto_region 19 with fail
    refine wp_region_held_drew (S := fun w' => w'.cell? ⟨g16, 0, none⟩ = some (.bool nf) ∧ w'.cell? ⟨g16, 1, none⟩ = some (.int .u64 (ch : Int)) ∧ w'.cell? ⟨g16, 2, none⟩ = some (.int .u64 (cl : Int)) ∧ w'.cell? ⟨g16, 3, none⟩ = some (.int .i64 xf) ∧ w'.cell? ⟨g17, 0, none⟩ = some (.bool nf) ∧ w'.cell? ⟨g17, 1, none⟩ = some (.slice AR (Dg.dg (nv ch cl)).length cR) ∧ w'.cell? ⟨g17, 2, none⟩ = some (.int .i64 xf) ∧ Below V9.heap.size V9 w') (by kernel_rfl) ?_ (fun hHeld => ?_)
    · exact keep7B ⟨b1, b2, b3, b4, c1, c2, c3⟩ (Below.refl _ _).drew
    refine wpAnyH_take (i := 0) (oi := { dst := some 125, op := Go.Op.move (Go.Operand.tmp 20), type := 4, pos := "law.go:120", after := #[], guard := none }) (v := ?_) rfl (by kernel_rfl) (by kernel_rfl) (by kernel_rfl) (fun _ _ _ h => h) (Or.inl ⟨by rfl, ?_⟩) (by assumption) ?_
    rotate_left
    · intro w hSw
      try dsimp only at hSw
      go_simp
      try with_reducible rfl
    try simp only [Act.put, List.setIfInBounds_toArray, List.set_cons_zero, List.set_cons_succ]
    refine wpAnyH_take (i := 1) (oi := { dst := some 126, op := Go.Op.load 37 (Go.Operand.tmp 17), type := 37, pos := "law.go:120", after := #[], guard := none }) (v := ?_) rfl (by kernel_rfl) (by kernel_rfl) (by kernel_rfl) (fun _ _ _ h => h) (Or.inl ⟨by rfl, ?_⟩) (by assumption) ?_
    rotate_left
    · intro w hSw
      try dsimp only at hSw
      go_simp
      try with_reducible rfl
    try simp only [Act.put, List.setIfInBounds_toArray, List.set_cons_zero, List.set_cons_succ]
    refine wpAnyH_ready (rs := [2]) (by kernel_rfl) (by simp) ?_
    refine AllReadyH.cons (o := { dst := some 127, op := Go.Op.call { callee := Go.Callee.value (Go.Operand.func 23), args := #[Go.Operand.tmp 126], argTypes := #[37] }, type := 4, pos := "law.go:120", after := #[{ on := 1, ground := Go.Ground.data }], guard := none }) rfl (fun K hK => ?_) AllReadyH.nil
    go_simp
    refine (IG.out _ (HRF.out.below hHeld.2.2.2.2.2.2.2)).mono ?_
    rintro e v1 ⟨rfl, hbv1⟩
    have HBx := Lib.hid (bstep hHeld.2.2.2.2.2.2.2 hbv1)
    clear hHeld hbv1
    refine hK.out _ _ ?_ (fun hHeld => ?_)
    · exact keep7B ⟨b1, b2, b3, b4, c1, c2, c3⟩ HBx.out
    clear hK K HBx
    try simp only [Act.put, List.setIfInBounds_toArray, List.set_cons_zero, List.set_cons_succ]
    refine wpAnyH_take (i := 3) (oi := { dst := some 128, op := Go.Op.binOp Go.BinOp.eql 4 (Go.Operand.tmp 125) (Go.Operand.tmp 127) 4, type := 4, pos := "law.go:120", after := #[{ on := 0, ground := Go.Ground.data }, { on := 2, ground := Go.Ground.data }], guard := none }) (v := ?_) rfl (by kernel_rfl) (by kernel_rfl) (by kernel_rfl) (fun _ _ _ h => h) (Or.inl ⟨by rfl, ?_⟩) (by assumption) ?_
    rotate_left
    · intro w hSw
      try dsimp only at hSw
      go_simp
      try with_reducible rfl
    try simp only [Act.put, List.setIfInBounds_toArray, List.set_cons_zero, List.set_cons_succ]
    refine wpAnyH_take (i := 4) (oi := { dst := some 129, op := Go.Op.move (Go.Operand.tmp 128), type := 4, pos := "law.go:120", after := #[{ on := 3, ground := Go.Ground.data }, { on := 2, ground := Go.Ground.chain }], guard := none }) (v := ?_) rfl (by kernel_rfl) (by kernel_rfl) (by kernel_rfl) (fun _ _ _ h => h) (Or.inl ⟨by rfl, ?_⟩) (by assumption) ?_
    rotate_left
    · intro w hSw
      try dsimp only at hSw
      go_simp
      try with_reducible rfl
    try simp only [Act.put, List.setIfInBounds_toArray, List.set_cons_zero, List.set_cons_succ]
    refine wpAnyH_take (i := 5) (oi := { dst := some 130, op := Go.Op.move (Go.Operand.tmp 20), type := 4, pos := "law.go:120", after := #[{ on := 4, ground := Go.Ground.guard }], guard := some (4, true) }) (v := ?_) rfl (by kernel_rfl) (by kernel_rfl) (by kernel_rfl) (fun _ _ _ h => h) (Or.inl ⟨by rfl, ?_⟩) (by assumption) ?_
    rotate_left
    · intro w hSw
      try dsimp only at hSw
      go_simp
      try with_reducible rfl
    try simp only [Act.put, List.setIfInBounds_toArray, List.set_cons_zero, List.set_cons_succ]
    refine wpAnyH_take (i := 6) (oi := { dst := some 131, op := Go.Op.unOp Go.UnOp.not 4 (Go.Operand.tmp 130), type := 4, pos := "law.go:120", after := #[{ on := 5, ground := Go.Ground.data }, { on := 4, ground := Go.Ground.guard }], guard := some (4, true) }) (v := ?_) rfl (by kernel_rfl) (by kernel_rfl) (by kernel_rfl) (fun _ _ _ h => h) (Or.inl ⟨by rfl, ?_⟩) (by assumption) ?_
    rotate_left
    · intro w hSw
      try dsimp only at hSw
      go_simp
      try with_reducible rfl
    try simp only [Act.put, List.setIfInBounds_toArray, List.set_cons_zero, List.set_cons_succ]
    refine wpAnyH_take (i := 7) (oi := { dst := some 132, op := Go.Op.move (Go.Operand.tmp 131), type := 4, pos := "law.go:120", after := #[{ on := 6, ground := Go.Ground.data }, { on := 4, ground := Go.Ground.chain }, { on := 4, ground := Go.Ground.guard }], guard := some (4, true) }) (v := ?_) rfl (by kernel_rfl) (by kernel_rfl) (by kernel_rfl) (fun _ _ _ h => h) (Or.inl ⟨by rfl, ?_⟩) (by assumption) ?_
    rotate_left
    · intro w hSw
      try dsimp only at hSw
      go_simp
      try with_reducible rfl
    try simp only [Act.put, List.setIfInBounds_toArray, List.set_cons_zero, List.set_cons_succ]
    refine wpAnyH_take (i := 8) (oi := { dst := some 133, op := Go.Op.move (Go.Operand.tmp 19), type := 3, pos := "law.go:120", after := #[{ on := 7, ground := Go.Ground.guard }], guard := some (7, true) }) (v := undef) rfl (by kernel_rfl) (by kernel_rfl) (by kernel_rfl) (fun _ _ _ h => h) (Or.inr ⟨by rfl, rfl⟩) (by assumption) ?_
    try simp only [Act.put, List.setIfInBounds_toArray, List.set_cons_zero, List.set_cons_succ]
    refine wpAnyH_take (i := 9) (oi := { dst := some 134, op := Go.Op.binOp Go.BinOp.eql 3 (Go.Operand.tmp 133) (Go.Operand.const (Go.Value.int Go.IntKind.i64 0)) 3, type := 4, pos := "law.go:120", after := #[{ on := 8, ground := Go.Ground.data }, { on := 7, ground := Go.Ground.guard }], guard := some (7, true) }) (v := undef) rfl (by kernel_rfl) (by kernel_rfl) (by kernel_rfl) (fun _ _ _ h => h) (Or.inr ⟨by rfl, rfl⟩) (by assumption) ?_
    try simp only [Act.put, List.setIfInBounds_toArray, List.set_cons_zero, List.set_cons_succ]
    refine wpAnyH_take (i := 10) (oi := { dst := some 135, op := Go.Op.pick (Go.Operand.tmp 132) (Go.Operand.tmp 134) (Go.Operand.const (Go.Value.bool false)), type := 4, pos := "law.go:120", after := #[{ on := 7, ground := Go.Ground.data }, { on := 9, ground := Go.Ground.data }, { on := 4, ground := Go.Ground.guard }], guard := some (4, true) }) (v := ?_) rfl (by kernel_rfl) (by kernel_rfl) (by kernel_rfl) (fun _ _ _ h => h) (Or.inl ⟨by rfl, ?_⟩) (by assumption) ?_
    rotate_left
    · intro w hSw
      try dsimp only at hSw
      go_simp
      try with_reducible rfl
    try simp only [Act.put, List.setIfInBounds_toArray, List.set_cons_zero, List.set_cons_succ]
    refine wpAnyH_take (i := 11) (oi := { dst := some 136, op := Go.Op.move (Go.Operand.tmp 135), type := 4, pos := "law.go:120", after := #[{ on := 10, ground := Go.Ground.data }, { on := 7, ground := Go.Ground.chain }, { on := 4, ground := Go.Ground.guard }], guard := some (4, true) }) (v := ?_) rfl (by kernel_rfl) (by kernel_rfl) (by kernel_rfl) (fun _ _ _ h => h) (Or.inl ⟨by rfl, ?_⟩) (by assumption) ?_
    rotate_left
    · intro w hSw
      try dsimp only at hSw
      go_simp
      try with_reducible rfl
    try simp only [Act.put, List.setIfInBounds_toArray, List.set_cons_zero, List.set_cons_succ]
    refine wpAnyH_take (i := 12) (oi := { dst := some 137, op := Go.Op.move (Go.Operand.tmp 20), type := 4, pos := "law.go:120", after := #[{ on := 11, ground := Go.Ground.guard }], guard := some (11, false) }) (v := ?_) rfl (by kernel_rfl) (by kernel_rfl) (by kernel_rfl) (fun _ _ _ h => h) (Or.inl ⟨by rfl, ?_⟩) (by assumption) ?_
    rotate_left
    · intro w hSw
      try dsimp only at hSw
      go_simp
      try with_reducible rfl
    try simp only [Act.put, List.setIfInBounds_toArray, List.set_cons_zero, List.set_cons_succ]
    refine wpAnyH_take (i := 13) (oi := { dst := some 138, op := Go.Op.move (Go.Operand.tmp 137), type := 4, pos := "law.go:120", after := #[{ on := 12, ground := Go.Ground.data }, { on := 11, ground := Go.Ground.chain }, { on := 11, ground := Go.Ground.guard }], guard := some (11, false) }) (v := ?_) rfl (by kernel_rfl) (by kernel_rfl) (by kernel_rfl) (fun _ _ _ h => h) (Or.inl ⟨by rfl, ?_⟩) (by assumption) ?_
    rotate_left
    · intro w hSw
      try dsimp only at hSw
      go_simp
      try with_reducible rfl
    try simp only [Act.put, List.setIfInBounds_toArray, List.set_cons_zero, List.set_cons_succ]
    refine wpAnyH_take (i := 14) (oi := { dst := some 139, op := Go.Op.move (Go.Operand.tmp 19), type := 3, pos := "law.go:120", after := #[{ on := 13, ground := Go.Ground.guard }], guard := some (13, true) }) (v := ?_) rfl (by kernel_rfl) (by kernel_rfl) (by kernel_rfl) (fun _ _ _ h => h) (Or.inl ⟨by rfl, ?_⟩) (by assumption) ?_
    rotate_left
    · intro w hSw
      try dsimp only at hSw
      go_simp
      try with_reducible rfl
    try simp only [Act.put, List.setIfInBounds_toArray, List.set_cons_zero, List.set_cons_succ]
    refine wpAnyH_take (i := 16) (oi := { dst := some 141, op := Go.Op.load 28 (Go.Operand.tmp 16), type := 28, pos := "law.go:120", after := #[{ on := 13, ground := Go.Ground.guard }], guard := some (13, true) }) (v := ?_) rfl (by kernel_rfl) (by kernel_rfl) (by kernel_rfl) (fun _ _ _ h => h) (Or.inl ⟨by rfl, ?_⟩) (by assumption) ?_
    rotate_left
    · intro w hSw
      try dsimp only at hSw
      go_simp
      try with_reducible rfl
    try simp only [Act.put, List.setIfInBounds_toArray, List.set_cons_zero, List.set_cons_succ]
    refine wpAnyH_ready (rs := [15]) (by kernel_rfl) (by simp) ?_
    refine AllReadyH.cons (o := { dst := some 140, op := Go.Op.call { callee := Go.Callee.value (Go.Operand.func 12), args := #[Go.Operand.tmp 139], argTypes := #[3] }, type := 28, pos := "law.go:120", after := #[{ on := 14, ground := Go.Ground.data }, { on := 13, ground := Go.Ground.chain }, { on := 13, ground := Go.Ground.guard }], guard := some (13, true) }) rfl (fun K hK => ?_) AllReadyH.nil
    go_simp
    refine (IZ.out _).mono ?_
    rintro e v2 ⟨nI, hI, lI, xI, ⟨rfl, rfl, rfl, rfl⟩, rfl, hbv2⟩
    have HBx := Lib.hid (bstep hHeld.2.2.2.2.2.2.2 hbv2)
    clear hHeld hbv2
    refine hK.out _ _ ?_ (fun hHeld => ?_)
    · exact keep7B ⟨b1, b2, b3, b4, c1, c2, c3⟩ HBx.out
    clear hK K HBx
    try simp only [Act.put, List.setIfInBounds_toArray, List.set_cons_zero, List.set_cons_succ]
    refine wpAnyH_ready (rs := [17]) (by kernel_rfl) (by simp) ?_
    refine AllReadyH.cons (o := { dst := some 142, op := Go.Op.call { callee := Go.Callee.value (Go.Operand.func 22), args := #[Go.Operand.tmp 140, Go.Operand.tmp 141], argTypes := #[28, 28] }, type := 3, pos := "law.go:120", after := #[{ on := 15, ground := Go.Ground.data }, { on := 16, ground := Go.Ground.data }, { on := 15, ground := Go.Ground.chain }, { on := 13, ground := Go.Ground.guard }], guard := some (13, true) }) rfl (fun K hK => ?_) AllReadyH.nil
    go_simp
    refine (CZ.out _ (HT.out.below (bstep B1 hHeld.2.2.2.2.2.2.2))).mono ?_
    rintro e v3 ⟨rfl, hbv3⟩
    have HBx := Lib.hid (bstep hHeld.2.2.2.2.2.2.2 hbv3)
    clear hHeld hbv3
    refine hK.out _ _ ?_ (fun hHeld => ?_)
    · exact keep7B ⟨b1, b2, b3, b4, c1, c2, c3⟩ HBx.out
    clear hK K HBx
    try simp only [Act.put, List.setIfInBounds_toArray, List.set_cons_zero, List.set_cons_succ]
    refine wpAnyH_take (i := 18) (oi := { dst := some 143, op := Go.Op.binOp Go.BinOp.eql 3 (Go.Operand.tmp 142) (Go.Operand.const (Go.Value.int Go.IntKind.i64 0)) 3, type := 4, pos := "law.go:120", after := #[{ on := 17, ground := Go.Ground.data }, { on := 13, ground := Go.Ground.guard }], guard := some (13, true) }) (v := ?_) rfl (by kernel_rfl) (by kernel_rfl) (by kernel_rfl) (fun _ _ _ h => h) (Or.inl ⟨by rfl, ?_⟩) (by assumption) ?_
    rotate_left
    · intro w hSw
      try dsimp only at hSw
      go_simp
      try with_reducible rfl
    try simp only [Act.put, List.setIfInBounds_toArray, List.set_cons_zero, List.set_cons_succ]
    refine wpAnyH_take (i := 19) (oi := { dst := some 144, op := Go.Op.pick (Go.Operand.tmp 138) (Go.Operand.tmp 143) (Go.Operand.const (Go.Value.bool false)), type := 4, pos := "law.go:120", after := #[{ on := 13, ground := Go.Ground.data }, { on := 18, ground := Go.Ground.data }, { on := 11, ground := Go.Ground.guard }], guard := some (11, false) }) (v := ?_) rfl (by kernel_rfl) (by kernel_rfl) (by kernel_rfl) (fun _ _ _ h => h) (Or.inl ⟨by rfl, ?_⟩) (by assumption) ?_
    rotate_left
    · intro w hSw
      try dsimp only at hSw
      go_simp
      try with_reducible rfl
    try simp only [Act.put, List.setIfInBounds_toArray, List.set_cons_zero, List.set_cons_succ]
    refine wpAnyH_take (i := 20) (oi := { dst := some 145, op := Go.Op.pick (Go.Operand.tmp 136) (Go.Operand.const (Go.Value.bool true)) (Go.Operand.tmp 144), type := 4, pos := "law.go:120", after := #[{ on := 11, ground := Go.Ground.data }, { on := 19, ground := Go.Ground.data }, { on := 4, ground := Go.Ground.guard }], guard := some (4, true) }) (v := ?_) rfl (by kernel_rfl) (by kernel_rfl) (by kernel_rfl) (fun _ _ _ h => h) (Or.inl ⟨by rfl, ?_⟩) (by assumption) ?_
    rotate_left
    · intro w hSw
      try dsimp only at hSw
      go_simp
      try with_reducible rfl
    try simp only [Act.put, List.setIfInBounds_toArray, List.set_cons_zero, List.set_cons_succ]
    refine wpAnyH_take (i := 21) (oi := { dst := some 146, op := Go.Op.pick (Go.Operand.tmp 129) (Go.Operand.tmp 145) (Go.Operand.const (Go.Value.bool false)), type := 4, pos := "law.go:120", after := #[{ on := 4, ground := Go.Ground.data }, { on := 20, ground := Go.Ground.data }], guard := none }) (v := ?_) rfl (by kernel_rfl) (by kernel_rfl) (by kernel_rfl) (fun _ _ _ h => h) (Or.inl ⟨by rfl, ?_⟩) (by assumption) ?_
    rotate_left
    · intro w hSw
      try dsimp only at hSw
      go_simp
      try with_reducible rfl
    try simp only [Act.put, List.setIfInBounds_toArray, List.set_cons_zero, List.set_cons_succ]
    refine wpAnyH_take (i := 22) (oi := { dst := some 10, op := Go.Op.assign (Go.Operand.tmp 146), type := 4, pos := "law.go:120", after := #[{ on := 21, ground := Go.Ground.data }, { on := 17, ground := Go.Ground.chain }, { on := 0, ground := Go.Ground.phase }, { on := 1, ground := Go.Ground.phase }, { on := 2, ground := Go.Ground.phase }, { on := 3, ground := Go.Ground.phase }, { on := 4, ground := Go.Ground.phase }, { on := 5, ground := Go.Ground.phase }, { on := 6, ground := Go.Ground.phase }, { on := 7, ground := Go.Ground.phase }, { on := 8, ground := Go.Ground.phase }, { on := 9, ground := Go.Ground.phase }, { on := 10, ground := Go.Ground.phase }, { on := 11, ground := Go.Ground.phase }, { on := 12, ground := Go.Ground.phase }, { on := 13, ground := Go.Ground.phase }, { on := 14, ground := Go.Ground.phase }, { on := 15, ground := Go.Ground.phase }, { on := 16, ground := Go.Ground.phase }, { on := 17, ground := Go.Ground.phase }, { on := 18, ground := Go.Ground.phase }, { on := 19, ground := Go.Ground.phase }, { on := 20, ground := Go.Ground.phase }, { on := 21, ground := Go.Ground.phase }], guard := none }) (v := ?_) rfl (by kernel_rfl) (by kernel_rfl) (by kernel_rfl) (fun _ _ _ h => h) (Or.inl ⟨by rfl, ?_⟩) (by assumption) ?_
    rotate_left
    · intro w hSw
      try dsimp only at hSw
      go_simp
      try with_reducible rfl
    try simp only [Act.put, List.setIfInBounds_toArray, List.set_cons_zero, List.set_cons_succ]
    refine wpAnyH_done (by kernel_rfl) ?_ _
    go_wp2
    go_ret
    exact ⟨rfl, bstep B1 hHeld.2.2.2.2.2.2.2⟩
end Go.Proofs.YteboohejlkionaaDoor
