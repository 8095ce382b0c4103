/-
  Sums and differences of numbers (Add, Sub of package dec), each as a contract of its call.
-/
import Derived.Test.YtncpdoeikebomaaDoorE9
import Derived.Test.YtncpdoeikebomaaDoorEv
namespace Go.Proofs.YtncpdoeikebomaaDoor
open Go.RowKit

theorem sumH_hi {na nb : Bool} {ca cb : Nat} {ea eb : Int} (h : ea ≤ 6111) (h' : eb ≤ 6111) : (sumH na ca ea nb cb eb).2.2.1 ≤ 6111 := by
  unfold sumH
  split
  · exact h'
  · split
    · show ea - _ ≤ 6111; omega
    · split
      · show ea - _ ≤ 6111; omega
      · show ea - _ ≤ 6111; omega
theorem sumF_hi {na nb : Bool} {ca cb : Nat} {ea eb : Int} (h1 : NumD ca ea) (h2 : NumD cb eb) : (sumF na ca ea nb cb eb).2.2.1 ≤ 6111 := by
  unfold sumF
  split
  · exact sumH_hi h2.2.2 h1.2.2
  · exact sumH_hi h1.2.2 h2.2.2

set_option maxRecDepth 100000 in
set_option maxHeartbeats 4000000 in
theorem addD_any (na : Bool) (ah al : Nat) (ea : Int) (nb : Bool) (bh bl : Nat) (eb : Int) (ha : WW ah al) (hb : WW bh bl) (h1 : NumD (nv ah al) ea) (h2 : NumD (nv bh bl) eb) (w : World) (ht : Tab w) :
    Calls Tryd.prog 24 #[Dv na ah al ea, Dv nb bh bl eb] w (RetDO (addF na (nv ah al) ea nb (nv bh bl) eb) w) := by
  have HT := Lib.hid ht
  have SU := Lib.hid (sum_any na ah al ea nb bh bl eb ha hb h1 h2)
  obtain ⟨-, lo, hi1, hi2⟩ := sumF_told (na := na) (nb := nb) h1 h2
  have LO := Lib.hid lo
  have HI := Lib.hid (show (sumF na (nv ah al) ea nb (nv bh bl) eb).2.2.1 ≤ 6111 from sumF_hi h1 h2)
  clear ht ha hb h1 h2 lo hi1 hi2
  go_enter Tryd.func24, Tryd.ntmps24
  go_wp2_with fail
  refine (SU.out _ (HT.out.below (by go_grown))).mono ?_
  rintro e w1 ⟨neg, h, l, h', l', x, more, ⟨s1, s2, s3⟩, rfl, hb1⟩
  have FI := Lib.hid (fit_any 1 (.inl rfl) neg h l h' l' x more s1 s2 (by have := LO.out; rw [s3] at this; show -300000000000000 ≤ x; have t : -6176 ≤ x := this; omega) (by have := HI.out; rw [s3] at this; have t : x ≤ 6111 := this; omega))
  have FE := Lib.hid (show fitF 1 neg (nv2 h l h' l') more x = addF na (nv ah al) ea nb (nv bh bl) eb from by unfold addF fitS; rw [s3])
  have B1 : Below w.heap.size w w1 := bstep (by go_grown) hb1
  have D2 := Lib.hid ((show HoldsD _ (w.heap.size + 1 + 1) false 0 0 0 from by simp [HoldsD, go_sem]).below hb1)
  clear hb1 s1 s2 s3 SU LO HI
  rw [FE.out] at FI
  go_wp2_with fail
  refine (FI.out _ (HT.out.below B1)).mono ?_
  rintro e w2 ⟨n2, h2, l2, x2, ok, NO, rfl, hb2⟩
  have HN := Lib.hid NO
  have B2 : Below w.heap.size w w2 := bstep B1 hb2
  replace D2 := Lib.hid (D2.out.below hb2)
  clear hb2 NO B1 FI FE
  obtain ⟨⟨b1, b2, b3, b4⟩, ⟨b5, b6, b7, b8⟩, b15⟩ := D2.out
  go_wp2
  refine bodyPost_ret (v := .tuple #[Dv n2 h2 l2 x2, .bool ok]) (by simp [results, Tryd.results24, go_sem, *]) rfl ⟨_, _, _, _, _, HN.out, rfl, ?_⟩
  clear b1 b2 b3 b4 b5 b6 b7 b8
  go_grown

set_option maxRecDepth 100000 in
set_option maxHeartbeats 4000000 in
theorem subD_any (na : Bool) (ah al : Nat) (ea : Int) (nb : Bool) (bh bl : Nat) (eb : Int) (ha : WW ah al) (hb : WW bh bl) (h1 : NumD (nv ah al) ea) (h2 : NumD (nv bh bl) eb) (w : World) (ht : Tab w) :
    Calls Tryd.prog 80 #[Dv na ah al ea, Dv nb bh bl eb] w (RetDO (addF na (nv ah al) ea (!nb && !decide (nv bh bl = 0)) (nv bh bl) eb) w) := by
  have HT := Lib.hid ht
  have NG := Lib.hid (neg_any nb bh bl eb)
  have AD := Lib.hid (fun n => addD_any na ah al ea n bh bl eb ha hb h1 h2)
  generalize (!nb && !decide (nv bh bl = 0)) = nn at *
  clear ht ha hb h1 h2
  go_enter Tryd.func80, Tryd.ntmps80
  go_upto_region 1 with fail
  have B0 : Below w.heap.size w (((w.alloc (.cells #[.bool na, .int .u64 (ah : Int), .int .u64 (al : Int), .int .i64 ea] 28)).alloc (.cells #[.bool nb, .int .u64 (bh : Int), .int .u64 (bl : Int), .int .i64 eb] 28)).alloc (.cells #[.bool false, .int .u64 0, .int .u64 0, .int .i64 0] 28)) := by go_grown
  have D0 := Lib.hid (show HoldsD (((w.alloc (.cells #[.bool na, .int .u64 (ah : Int), .int .u64 (al : Int), .int .i64 ea] 28)).alloc (.cells #[.bool nb, .int .u64 (bh : Int), .int .u64 (bl : Int), .int .i64 eb] 28)).alloc (.cells #[.bool false, .int .u64 0, .int .u64 0, .int .i64 0] 28)) w.heap.size na ah al ea from by simp [HoldsD, go_sem])
  have D1 := Lib.hid (show HoldsD (((w.alloc (.cells #[.bool na, .int .u64 (ah : Int), .int .u64 (al : Int), .int .i64 ea] 28)).alloc (.cells #[.bool nb, .int .u64 (bh : Int), .int .u64 (bl : Int), .int .i64 eb] 28)).alloc (.cells #[.bool false, .int .u64 0, .int .u64 0, .int .i64 0] 28)) (w.heap.size + 1) nb bh bl eb from by simp [HoldsD, go_sem])
  have D2 := Lib.hid (show HoldsD (((w.alloc (.cells #[.bool na, .int .u64 (ah : Int), .int .u64 (al : Int), .int .i64 ea] 28)).alloc (.cells #[.bool nb, .int .u64 (bh : Int), .int .u64 (bl : Int), .int .i64 eb] 28)).alloc (.cells #[.bool false, .int .u64 0, .int .u64 0, .int .i64 0] 28)) (w.heap.size + 1 + 1) false 0 0 0 from by simp [HoldsD, go_sem])
  generalize (((w.alloc (.cells #[.bool na, .int .u64 (ah : Int), .int .u64 (al : Int), .int .i64 ea] 28)).alloc (.cells #[.bool nb, .int .u64 (bh : Int), .int .u64 (bl : Int), .int .i64 eb] 28)).alloc (.cells #[.bool false, .int .u64 0, .int .u64 0, .int .i64 0] 28)) = V0 at *
  obtain ⟨⟨a1, a2, a3, a4⟩, -, a9⟩ := D0.out
  obtain ⟨⟨b1, b2, b3, b4⟩, -, b9⟩ := D1.out
  go_region_with
    (first
      | (go_at_call 27; refine (NG.out _).mono ?_; rintro e w1 ⟨n, h, l, x, ⟨rfl, rfl, rfl, rfl⟩, rfl, hb1⟩;
         have B1 := (bstep (w := w) (by repeat' (first | (with_reducible exact B0) | (with_reducible refine Below.drew ?_))) hb1 : Below w.heap.size w w1);
         have E0 := Lib.hid (HoldsD.below (by repeat' (first | (with_reducible exact D0.out) | (with_reducible refine HoldsD.drew ?_))) hb1 : HoldsD w1 w.heap.size na ah al ea);
         have E2 := Lib.hid (HoldsD.below (by repeat' (first | (with_reducible exact D2.out) | (with_reducible refine HoldsD.drew ?_))) hb1 : HoldsD w1 (w.heap.size + 1 + 1) false 0 0 0);
         obtain ⟨⟨d1, d2, d3, d4⟩, -, d9⟩ := E0.out; clear hb1)
      | (go_at_call 24; refine (AD.out _ _ (HT.out.below (by repeat' (first | (with_reducible exact B1) | (with_reducible refine Below.drew ?_))))).mono ?_; rintro e w2 ⟨n2, h2, l2, x2, ok, NO, rfl, hb2⟩;
         have B2 := (bstep (w := w) (by repeat' (first | (with_reducible exact B1) | (with_reducible refine Below.drew ?_))) hb2 : Below w.heap.size w w2);
         have F2 := Lib.hid (HoldsD.below (by repeat' (first | (with_reducible exact E2.out) | (with_reducible refine HoldsD.drew ?_))) hb2 : HoldsD w2 (w.heap.size + 1 + 1) false 0 0 0);
         obtain ⟨⟨f1, f2, f3, f4⟩, ⟨f5, f6, f7, f8⟩, f9⟩ := F2.out; clear hb2))
  all_goals
    have HN := Lib.hid NO
    clear NO a1 a2 a3 a4 b1 b2 b3 b4 d1 d2 d3 d4
    go_wp2
    refine bodyPost_ret (v := .tuple #[Dv n2 h2 l2 x2, .bool ok]) (by simp [results, Tryd.results80, go_sem, *]) rfl ⟨_, _, _, _, _, HN.out, rfl, ?_⟩
    clear f1 f2 f3 f4 f5 f6 f7 f8
    go_grown
end Go.Proofs.YtncpdoeikebomaaDoor
