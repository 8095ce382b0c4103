/-
  The digits of 10 to the 38, and the document's examples (awake), each as a contract of its call.
-/
import Derived.Test.YtmelblnfjcbmjaaDoorJ
namespace Go.Proofs.YtmelblnfjcbmjaaDoor
open Go.RowKit

theorem ww38 : WW ten38h ten38l := ⟨by decide, by decide⟩
theorem bl38 : bl2 ten38h ten38l = 127 := by decide +kernel

set_option maxHeartbeats 1000000 in
theorem digits38_any (w : World) (ht : Tab w) : Calls Tryd.prog 100 #[U ten38h ten38l] w (RetI 39 w) := by
  have B := bitLength_any ten38h ten38l ww38
  rw [bl38] at B
  have HB := Lib.hid B
  have HTen := Lib.hid (fun (W : World) (h : Tab W) => ten38_any W h)
  have C := cmp_any ten38h ten38l ten38h ten38l ww38 ww38
  rw [cmpN_eq] at C
  have HC := Lib.hid C
  have HT := Lib.hid ht
  clear B C ht
  generalize ten38h = a at *
  generalize ten38l = b at *
  go_enter Tryd.func100, Tryd.ntmps100
  go_wp2_with fail
  refine (HB.out _).mono ?_
  rintro e w1 ⟨rfl, hb1⟩
  have Hb1 : Below w.heap.size w w1 := bstep (by go_grown) hb1
  have T1 := Lib.hid (HT.out.below Hb1)
  have G0 := Lib.hid ((by simp [Holds2, go_sem] : Holds2 _ w.heap.size a b).below hb1)
  clear hb1
  go_wp2_with fail
  refine (HTen.out _ T1.out).mono ?_
  rintro e w2 ⟨rfl, hb2⟩
  have Hb2 : Below w.heap.size w w2 := bstep Hb1 hb2
  obtain ⟨a1, a2, a3, a4, a5⟩ := G0.out.below hb2
  clear hb2 G0 T1 HT
  go_wp2_with fail
  refine (HC.out _).mono ?_
  rintro e w3 ⟨rfl, hb3⟩
  have Hb3 : Below w.heap.size w w3 := bstep (Hb2.alloc Hb2.size _) hb3
  clear a1 a2 a3 a4 a5 hb3
  go_wp2
  go_ret
  exact ⟨rfl, Hb3⟩

set_option maxHeartbeats 1000000 in
theorem digitsTop38_any (w : World) (ht : Tab w) : Calls Tryd.prog 62 #[.agg #[.int .u64 0, .int .u64 0], U ten38h ten38l] w (RetI 39 w) := by
  have HD := Lib.hid (fun (W : World) (h : Tab W) => digits38_any W h)
  have HT := Lib.hid ht
  have HZ := Lib.hid (fun W : World => zero_t (h := 0) (l := 0) rfl W)
  clear ht
  generalize ten38h = a at *
  generalize ten38l = b at *
  go_enter Tryd.func62, Tryd.ntmps62
  go_wp2
  go_loopg [5] 0 (fun k n W => k = 0 ∧ n = .int .i64 0 ∧ Tab W ∧ Holds2 W w.heap.size 0 0 ∧ Holds2 W (w.heap.size + 1) a b ∧ Below w.heap.size w W)
  case atStart => exact ⟨rfl, rfl, HT.out.below (by go_grown), by simp [Holds2, go_sem], by simp [Holds2, go_sem], by go_grown⟩
  case round =>
    obtain ⟨rfl, rfl, T0, A, B, HB⟩ := hrel
    have T0' := Lib.hid T0
    have B' := Lib.hid B
    obtain ⟨a1, a2, a3, a4, a5⟩ := A
    clear T0 B HT
    go_wp2_with fail
    refine (HZ.out _).mono ?_
    rintro e w1 ⟨rfl, hb1⟩
    have HB1 : Below w.heap.size w w1 := bstep HB hb1
    have T1 := Lib.hid (T0'.out.below hb1)
    obtain ⟨b1, b2, b3, b4, b5⟩ := B'.out.below hb1
    clear a1 a2 a3 a4 a5 hb1 T0' B'
    go_wp2_with fail
    refine (HD.out _ T1.out).mono ?_
    rintro e w2 ⟨rfl, hb2⟩
    go_wp2
    go_ret
    exact ⟨rfl, bstep HB1 hb2⟩
end Go.Proofs.YtmelblnfjcbmjaaDoor
