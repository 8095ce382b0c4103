/-
  The document's examples of layer 6 (awake of its statements), as a contract of its call.
-/
import Derived.Test.YtmikbdnjkfdodaaCe
namespace Go.Proofs.Ytmikbdnjkfdodaa
open Go.RowKit

theorem keepT2 {W w' : World} {g k : Nat} {v0 v1 v2 u0 u1 u2 : Value} (h : W.cell? ⟨g, 0, none⟩ = some v0 ∧ W.cell? ⟨g, 1, none⟩ = some v1 ∧ W.cell? ⟨g, 2, none⟩ = some v2) (s : g < W.heap.size) (h' : W.cell? ⟨k, 0, none⟩ = some u0 ∧ W.cell? ⟨k, 1, none⟩ = some u1 ∧ W.cell? ⟨k, 2, none⟩ = some u2) (s' : k < W.heap.size) (hb : Below W.heap.size W w') : w'.cell? ⟨g, 0, none⟩ = some v0 ∧ w'.cell? ⟨g, 1, none⟩ = some v1 ∧ w'.cell? ⟨g, 2, none⟩ = some v2 ∧ w'.cell? ⟨k, 0, none⟩ = some u0 ∧ w'.cell? ⟨k, 1, none⟩ = some u1 ∧ w'.cell? ⟨k, 2, none⟩ = some u2 ∧ Below W.heap.size W w' :=
  ⟨((bcell hb).1 _ _ s).trans h.1, ((bcell hb).1 _ _ s).trans h.2.1, ((bcell hb).1 _ _ s).trans h.2.2, ((bcell hb).1 _ _ s').trans h'.1, ((bcell hb).1 _ _ s').trans h'.2.1, ((bcell hb).1 _ _ s').trans h'.2.2, hb⟩
set_option maxRecDepth 100000 in
set_option maxHeartbeats 4000000 in
theorem awake6 (w : World) : Calls Try.prog 9 #[] w (Ret (.bool true) w) := by
  have d1 : Day 2000 3 1 := by unfold Day; decide
  have d2 : Day 1969 12 31 := by unfold Day; decide
  have d3 : Day 2023 1 31 := by unfold Day; decide
  have d4 : Day 2024 2 29 := by unfold Day; decide
  have d5 : Day 2021 1 3 := by unfold Day; decide
  have d6 : Day 2019 12 30 := by unfold Day; decide
  have N10 := number_yes _ _ _ d1
  rw [show numI 2000 3 1 = 11017 by decide] at N10
  have O10 := of_num _ _ _ d2
  rw [show numI 1969 12 31 = -1 by decide] at O10
  have M10 := months_yes _ _ _ 1 d3 (by decide) (by decide) (by decide)
  rw [show moY 2023 1 1 = 2023 by decide, show moM 1 1 = 2 by decide, show min 31 (lenI 2023 2) = 28 by decide] at M10
  have WD0 := weekday_yes _ _ _ d4
  rw [show wdI (numI 2024 2 29) = 4 by decide] at WD0
  have W10 := week_yes _ _ _ d5
  rw [show weekI 2021 1 3 = 53 by decide] at W10
  have W20 := week_yes _ _ _ d6
  rw [show weekI 2019 12 30 = 1 by decide] at W20
  have N1 := Lib.hid N10
  have O1 := Lib.hid O10
  have M1 := Lib.hid M10
  have WD := Lib.hid WD0
  have W1 := Lib.hid W10
  have W2 := Lib.hid W20
  clear d1 d2 d3 d4 d5 d6 N10 O10 M10 WD0 W10 W20
  go_enter Try.func9, Try.ntmps9
  go_wp2_with fail
  refine (N1.out _).mono ?_
  rintro e w1 ⟨rfl, hb1⟩
  have B : Below w.heap.size w w1 := bstep (by go_grown) hb1
  clear hb1 N1
  go_wp2_with fail
  refine (O1.out _).mono ?_
  rintro e w2 ⟨rfl, hb2⟩
  replace B := bstep B hb2
  clear hb2 O1
  go_upto_region 3 with fail
  have P10 := Lib.hid (HoldsT.new rfl : HoldsT (w2.alloc (DtC 1969 12 31)) w2.heap.size 1969 12 31)
  replace B := ballD1 B (DtC 1969 12 31)
  change Code.wp _ _ _ _ (w2.alloc (DtC 1969 12 31))
  generalize w2.alloc (DtC 1969 12 31) = V2 at *
  obtain ⟨g1, hg1⟩ : ∃ g, g = w2.heap.size := ⟨_, rfl⟩
  rw [← hg1] at P10 ⊢
  clear hg1
  go_wp2_with fail
  refine (M1.out _).mono ?_
  rintro e w3 ⟨rfl, hb3⟩
  replace P10 := Lib.hid ((P10.out.below hb3).alloc (DtC 2023 2 28))
  replace B := ballD1 (bstep B hb3) (DtC 2023 2 28)
  have P20 := Lib.hid (HoldsT.new rfl : HoldsT (w3.alloc (DtC 2023 2 28)) w3.heap.size 2023 2 28)
  clear hb3 M1
  go_upto_region 4 with fail
  change Code.wp _ _ _ _ (w3.alloc (DtC 2023 2 28))
  generalize w3.alloc (DtC 2023 2 28) = V at *
  obtain ⟨g2, hg2⟩ : ∃ g, g = w3.heap.size := ⟨_, rfl⟩
  rw [← hg2] at P20 ⊢
  clear hg2
  have P1 := P10
  have P2 := P20
  clear P10 P20
  obtain ⟨⟨a1, a2, a3⟩, -, a9⟩ := P1.out
  obtain ⟨⟨b1, b2, b3⟩, -, b9⟩ := P2.out
  go_wp2_with fail
  refine (WD.out _).mono ?_
  rintro e w4 ⟨rfl, hb4⟩
  replace P1 := Lib.hid (P1.out.below hb4)
  replace P2 := Lib.hid (P2.out.below hb4)
  replace B := bstep B hb4
  clear hb4 a1 a2 a3 a9 b1 b2 b3 b9
  go_wp2_with fail
  refine (W1.out _).mono ?_
  rintro e w5 ⟨rfl, hb5⟩
  replace P2 := Lib.hid (P2.out.below hb5)
  replace B := bstep B hb5
  clear hb5
  go_wp2_with fail
  refine (W2.out _).mono ?_
  rintro e w6 ⟨rfl, hb6⟩
  replace P2 := Lib.hid (P2.out.below hb6)
  replace B := bstep B hb6
  clear hb6
  obtain ⟨⟨b1, b2, b3⟩, -, b9⟩ := P2.out
  go_wp2
  go_ret
  exact ⟨rfl, B⟩
end Go.Proofs.Ytmikbdnjkfdodaa
