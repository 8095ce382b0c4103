/-
  Noughts behind a number's digits (layNoughts of package dec), as a contract of its call.
-/
import Derived.Test.YtkkddflclakphaaDoorPc
namespace Go.Proofs.YtkkddflclakphaaDoor
open Go.RowKit

theorem nv2_low (h l : Nat) : nv2 0 0 h l = nv h l := by unfold nv2 nv; omega
theorem ww0 : WW 0 0 := ⟨by decide, by decide⟩
theorem ten34_lt : 10 ^ 34 < B128 := by unfold B128; decide
/-- What a product's high half is, if the product is below 2^128. -/
theorem low_half {h l h' l' P : Nat} (b : WW h' l') (e : nv2 h l h' l' = P) (hP : P < B128) : h = 0 ∧ l = 0 ∧ nv h' l' = P := by
  have k := nv_lt b
  unfold nv2 at e
  have z : nv h l = 0 := by
    rcases Nat.eq_zero_or_pos (nv h l) with y | y
    · exact y
    · exfalso
      have := Nat.mul_le_mul_right B128 y
      omega
  rw [z] at e
  unfold nv at z
  omega

set_option maxHeartbeats 1000000 in
theorem lay_any (neg : Bool) (h l : Nat) (x : Int) (ha : WW h l) (hc : nv h l < 10 ^ 34) (x1 : -100000 ≤ x) (x2 : x ≤ 100000) (w : World) (ht : Tab w) : Calls Tryd.prog 69 #[Dv neg h l x] w
    (RetD (fun n h' l' x' => n = neg ∧ WW h' l' ∧ nv h' l' = nv h l * 10 ^ (34 - nd (nv h l)) ∧ x' = x - ((34 - nd (nv h l) : Nat) : Int)) w) := by
  have HT := Lib.hid ht
  have HA := Lib.hid ha
  have DG := Lib.hid (digitsTop_any 0 0 h l ww0 ha)
  rw [nv2_low] at DG
  have hk : nd (nv h l) ≤ 34 := nd_le hc
  have PR : nv h l * 10 ^ (34 - nd (nv h l)) < B128 := by
    have g := Nat.mul_lt_mul_of_pos_right (nd_lt (nv h l)) (p10 (34 - nd (nv h l)))
    rw [← Nat.pow_add, show nd (nv h l) + (34 - nd (nv h l)) = 34 by omega] at g
    exact Nat.lt_trans g ten34_lt
  have HP := Lib.hid PR
  generalize nd (nv h l) = k at *
  generalize hj : 34 - k = j at *
  have e1 : (34 : Int) - (k : Int) = (j : Int) := by omega
  have e2 : IntKind.i64.wrap (34 - (k : Int)) = (j : Int) := by rw [IntKind.wrap_i64]; omega
  have j34 : j ≤ 34 := by omega
  have e3 : IntKind.i64.wrap (x - (j : Int)) = x - (j : Int) := by rw [IntKind.wrap_i64]; omega
  clear ht ha hc PR hj hk
  go_enter Tryd.func69, Tryd.ntmps69
  go_wp2_with fail
  have B0 : Below w.heap.size w ((w.alloc (.cells #[.bool neg, .int .u64 (h : Int), .int .u64 (l : Int), .int .i64 x] 34)).alloc (.cells #[.bool false, .int .u64 0, .int .u64 0, .int .i64 0] 34)) := by go_grown
  have D0 := Lib.hid (show HoldsD ((w.alloc (.cells #[.bool neg, .int .u64 (h : Int), .int .u64 (l : Int), .int .i64 x] 34)).alloc (.cells #[.bool false, .int .u64 0, .int .u64 0, .int .i64 0] 34)) w.heap.size neg h l x from by simp [HoldsD, go_sem])
  have D1 := Lib.hid (show HoldsD ((w.alloc (.cells #[.bool neg, .int .u64 (h : Int), .int .u64 (l : Int), .int .i64 x] 34)).alloc (.cells #[.bool false, .int .u64 0, .int .u64 0, .int .i64 0] 34)) (w.heap.size + 1) false 0 0 0 from by simp [HoldsD, go_sem])
  refine (DG.out _ (HT.out.below B0)).mono ?_
  rintro e w1 ⟨rfl, hb1⟩
  have B1 : Below w.heap.size w w1 := bstep B0 hb1
  replace D0 := Lib.hid (D0.out.below hb1)
  replace D1 := Lib.hid (D1.out.below hb1)
  clear hb1 B0 DG
  go_wp2_with fail
  refine (ten_yes j (by omega) _ (HT.out.below B1)).mono ?_
  rintro e w2 ⟨th, tl, P, rfl, hb2⟩
  have HQ := Lib.hid P
  have B2 : Below w.heap.size w w2 := bstep B1 hb2
  replace D0 := Lib.hid (D0.out.below hb2)
  replace D1 := Lib.hid (D1.out.below hb2)
  clear hb2 B1 P
  obtain ⟨⟨a1, a2, a3, a4⟩, ⟨a5, a6, a7, a8⟩, a9⟩ := D0.out
  have z1 : w.heap.size < w2.heap.size + 1 := by omega
  go_wp2_with fail
  refine (mul_any h l th tl HA.out HQ.out.1 _).mono ?_
  rintro e w3 ⟨ph, pl, qh, ql, P, rfl, hb3⟩
  have HR := Lib.hid (show WW qh ql ∧ nv qh ql = nv h l * 10 ^ j from by
    have v := P.2.2
    rw [HQ.out.2] at v
    exact ⟨P.2.1, (low_half P.2.1 v HP.out).2.2⟩)
  have B3 : Below w.heap.size w w3 := bstep (B2.alloc B2.size _) hb3
  clear a1 a2 a3 a4 a5 a6 a7 a8 a9
  replace D0 := Lib.hid ((D0.out.alloc _).below hb3)
  replace D1 := Lib.hid ((D1.out.alloc _).below hb3)
  clear hb3 B2 P z1 HQ HP
  obtain ⟨⟨a1, a2, a3, a4⟩, ⟨a5, a6, a7, a8⟩, a9⟩ := D0.out
  obtain ⟨⟨b1, b2, b3, b4⟩, ⟨b5, b6, b7, b8⟩, b9⟩ := D1.out
  go_wp2
  refine bodyPost_ret (v := Dv neg qh ql (x - (j : Int))) (by simp [results, Tryd.results69, go_sem, *]) rfl ⟨_, _, _, _, ⟨rfl, HR.out.1, HR.out.2, rfl⟩, rfl, ?_⟩
  clear a1 a2 a3 a4 a5 a6 a7 a8 a9 b1 b2 b3 b4 b5 b6 b7 b8 b9
  go_grown
end Go.Proofs.YtkkddflclakphaaDoor
