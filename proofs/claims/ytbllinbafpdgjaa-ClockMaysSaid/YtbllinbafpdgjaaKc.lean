/-
  The document's examples of layer 7 (awake of its statements), as a contract of its call.
-/
import Derived.Test.YtbllinbafpdgjaaKb
namespace Go.Proofs.Ytbllinbafpdgjaa
open Go.RowKit

set_option maxRecDepth 100000 in
set_option maxHeartbeats 4000000 in
theorem awake7 (w : World) : Calls Try.prog 7 #[] w (Ret (.bool true) w) := by
  have O1 := Lib.hid (of_yes 23 59 59 (by decide))
  have L10 := later_yes 86399 false 0 2 (by decide) (by unfold I64; omega)
  have L20 := later_yes 0 false 0 (-1) (by decide) (by unfold I64; omega)
  rw [show (86399 + 2 : Int) % 86400 = 1 by decide, show (86399 + 2 : Int) / 86400 = 1 by decide] at L10
  rw [show (0 + -1 : Int) % 86400 = 86399 by decide, show (0 + -1 : Int) / 86400 = -1 by decide] at L20
  have K10 := between_yes 36000 true 3600 32400 0 (by decide) (by decide)
  rw [show (32400 - 0 - (36000 - 3600) : Int) = 0 by decide] at K10
  have L1 := Lib.hid L10
  have L2 := Lib.hid L20
  have K1 := Lib.hid K10
  clear L10 L20 K10
  go_enter Try.func7, Try.ntmps7
  go_wp2_with fail
  refine (O1.out _).mono ?_
  rintro e w1 ⟨rfl, hb⟩
  have B : Below w.heap.size w w1 := bstep (by go_grown) hb
  clear hb O1
  go_upto_region 2 with fail
  have P1 := Lib.hid (HoldsM.new rfl : HoldsM (w1.alloc (TmC 86399 false 0)) w1.heap.size 86399 false 0)
  replace B := ballD1 B (TmC 86399 false 0)
  change Code.wp _ _ _ _ (w1.alloc (TmC 86399 false 0))
  generalize w1.alloc (TmC 86399 false 0) = w2 at *
  obtain ⟨g1, hg⟩ : ∃ g, g = w1.heap.size := ⟨_, rfl⟩
  rw [← hg] at P1 ⊢
  clear hg w1
  obtain ⟨⟨a1, a2, a3⟩, -, a9⟩ := P1.out
  go_wp2_with fail
  refine (L1.out _).mono ?_
  rintro e w3 ⟨rfl, hb⟩
  replace P1 := Lib.hid (P1.out.below hb)
  replace B := bstep B hb
  clear hb L1 a1 a2 a3 a9
  go_upto_region 3 with fail
  have P2 := Lib.hid (HoldsM.new rfl : HoldsM (w3.alloc (TmC 1 false 0)) w3.heap.size 1 false 0)
  replace P1 := Lib.hid (P1.out.alloc (TmC 1 false 0))
  replace B := ballD1 B (TmC 1 false 0)
  change Code.wp _ _ _ _ (w3.alloc (TmC 1 false 0))
  generalize w3.alloc (TmC 1 false 0) = w4 at *
  obtain ⟨g2, hg⟩ : ∃ g, g = w3.heap.size := ⟨_, rfl⟩
  rw [← hg] at P2 ⊢
  clear hg w3
  go_wp2_with fail
  refine (L2.out _).mono ?_
  rintro e w5 ⟨rfl, hb⟩
  replace P1 := Lib.hid (P1.out.below hb)
  replace P2 := Lib.hid (P2.out.below hb)
  replace B := bstep B hb
  clear hb L2
  go_upto_region 4 with fail
  have P3 := Lib.hid (HoldsM.new rfl : HoldsM (w5.alloc (TmC 86399 false 0)) w5.heap.size 86399 false 0)
  replace P1 := Lib.hid (P1.out.alloc (TmC 86399 false 0))
  replace P2 := Lib.hid (P2.out.alloc (TmC 86399 false 0))
  replace B := ballD1 B (TmC 86399 false 0)
  change Code.wp _ _ _ _ (w5.alloc (TmC 86399 false 0))
  generalize w5.alloc (TmC 86399 false 0) = w6 at *
  obtain ⟨g3, hg⟩ : ∃ g, g = w5.heap.size := ⟨_, rfl⟩
  rw [← hg] at P3 ⊢
  clear hg w5
  go_wp2_with fail
  refine (K1.out _).mono ?_
  rintro e w7 ⟨rfl, hb⟩
  replace P1 := Lib.hid (P1.out.below hb)
  replace P2 := Lib.hid (P2.out.below hb)
  replace P3 := Lib.hid (P3.out.below hb)
  replace B := bstep B hb
  clear hb K1
  obtain ⟨⟨a1, a2, a3⟩, -, a9⟩ := P1.out
  obtain ⟨⟨b1, b2, b3⟩, -, b9⟩ := P2.out
  obtain ⟨⟨c1, c2, c3⟩, -, c9⟩ := P3.out
  go_wp2
  go_ret
  exact ⟨rfl, B⟩
end Go.Proofs.Ytbllinbafpdgjaa
