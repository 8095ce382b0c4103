/-
  The statement DecOrder, walked: it answers true, where the document's examples do.
-/
import Derived.Test.YteboohejlkionaaDoorE7
import Derived.Test.YteboohejlkionaaDoorEm
import Derived.Test.YteboohejlkionaaDoorAc
import Derived.Test.YteboohejlkionaaDoorWp
import Derived.Deep.RegionHeld3
namespace Go.Proofs.YteboohejlkionaaDoor
open Go.RowKit

theorem keep444 {W w' : World} {g k j : Nat} {v0 v1 v2 v3 v4 v5 v6 v7 v8 v9 v10 v11 : Value} (hb : Below W.heap.size W w') (h : W.cell? ⟨g, 0, none⟩ = some v0 ∧ W.cell? ⟨g, 1, none⟩ = some v1 ∧ W.cell? ⟨g, 2, none⟩ = some v2 ∧ W.cell? ⟨g, 3, none⟩ = some v3 ∧ W.cell? ⟨k, 0, none⟩ = some v4 ∧ W.cell? ⟨k, 1, none⟩ = some v5 ∧ W.cell? ⟨k, 2, none⟩ = some v6 ∧ W.cell? ⟨k, 3, none⟩ = some v7 ∧ W.cell? ⟨j, 0, none⟩ = some v8 ∧ W.cell? ⟨j, 1, none⟩ = some v9 ∧ W.cell? ⟨j, 2, none⟩ = some v10 ∧ W.cell? ⟨j, 3, none⟩ = some v11) : w'.cell? ⟨g, 0, none⟩ = some v0 ∧ w'.cell? ⟨g, 1, none⟩ = some v1 ∧ w'.cell? ⟨g, 2, none⟩ = some v2 ∧ w'.cell? ⟨g, 3, none⟩ = some v3 ∧ w'.cell? ⟨k, 0, none⟩ = some v4 ∧ w'.cell? ⟨k, 1, none⟩ = some v5 ∧ w'.cell? ⟨k, 2, none⟩ = some v6 ∧ w'.cell? ⟨k, 3, none⟩ = some v7 ∧ w'.cell? ⟨j, 0, none⟩ = some v8 ∧ w'.cell? ⟨j, 1, none⟩ = some v9 ∧ w'.cell? ⟨j, 2, none⟩ = some v10 ∧ w'.cell? ⟨j, 3, none⟩ = some v11 :=
  ⟨keepCell2 h.1 hb, keepCell2 h.2.1 hb, keepCell2 h.2.2.1 hb, keepCell2 h.2.2.2.1 hb, keepCell2 h.2.2.2.2.1 hb, keepCell2 h.2.2.2.2.2.1 hb, keepCell2 h.2.2.2.2.2.2.1 hb, keepCell2 h.2.2.2.2.2.2.2.1 hb, keepCell2 h.2.2.2.2.2.2.2.2.1 hb, keepCell2 h.2.2.2.2.2.2.2.2.2.1 hb, keepCell2 h.2.2.2.2.2.2.2.2.2.2.1 hb, keepCell2 h.2.2.2.2.2.2.2.2.2.2.2 hb⟩
theorem keep444a {W : World} {g k j : Nat} {v0 v1 v2 v3 v4 v5 v6 v7 v8 v9 v10 v11 : Value} {ob : Obj} (h : W.cell? ⟨g, 0, none⟩ = some v0 ∧ W.cell? ⟨g, 1, none⟩ = some v1 ∧ W.cell? ⟨g, 2, none⟩ = some v2 ∧ W.cell? ⟨g, 3, none⟩ = some v3 ∧ W.cell? ⟨k, 0, none⟩ = some v4 ∧ W.cell? ⟨k, 1, none⟩ = some v5 ∧ W.cell? ⟨k, 2, none⟩ = some v6 ∧ W.cell? ⟨k, 3, none⟩ = some v7 ∧ W.cell? ⟨j, 0, none⟩ = some v8 ∧ W.cell? ⟨j, 1, none⟩ = some v9 ∧ W.cell? ⟨j, 2, none⟩ = some v10 ∧ W.cell? ⟨j, 3, none⟩ = some v11) : (W.alloc ob).cell? ⟨g, 0, none⟩ = some v0 ∧ (W.alloc ob).cell? ⟨g, 1, none⟩ = some v1 ∧ (W.alloc ob).cell? ⟨g, 2, none⟩ = some v2 ∧ (W.alloc ob).cell? ⟨g, 3, none⟩ = some v3 ∧ (W.alloc ob).cell? ⟨k, 0, none⟩ = some v4 ∧ (W.alloc ob).cell? ⟨k, 1, none⟩ = some v5 ∧ (W.alloc ob).cell? ⟨k, 2, none⟩ = some v6 ∧ (W.alloc ob).cell? ⟨k, 3, none⟩ = some v7 ∧ (W.alloc ob).cell? ⟨j, 0, none⟩ = some v8 ∧ (W.alloc ob).cell? ⟨j, 1, none⟩ = some v9 ∧ (W.alloc ob).cell? ⟨j, 2, none⟩ = some v10 ∧ (W.alloc ob).cell? ⟨j, 3, none⟩ = some v11 :=
  keep444 ((Below.refl _ _).alloc (Nat.le_refl _) ob) h
theorem keep444d {W : World} {g k j : Nat} {v0 v1 v2 v3 v4 v5 v6 v7 v8 v9 v10 v11 : Value} (h : W.cell? ⟨g, 0, none⟩ = some v0 ∧ W.cell? ⟨g, 1, none⟩ = some v1 ∧ W.cell? ⟨g, 2, none⟩ = some v2 ∧ W.cell? ⟨g, 3, none⟩ = some v3 ∧ W.cell? ⟨k, 0, none⟩ = some v4 ∧ W.cell? ⟨k, 1, none⟩ = some v5 ∧ W.cell? ⟨k, 2, none⟩ = some v6 ∧ W.cell? ⟨k, 3, none⟩ = some v7 ∧ W.cell? ⟨j, 0, none⟩ = some v8 ∧ W.cell? ⟨j, 1, none⟩ = some v9 ∧ W.cell? ⟨j, 2, none⟩ = some v10 ∧ W.cell? ⟨j, 3, none⟩ = some v11) : W.drew.cell? ⟨g, 0, none⟩ = some v0 ∧ W.drew.cell? ⟨g, 1, none⟩ = some v1 ∧ W.drew.cell? ⟨g, 2, none⟩ = some v2 ∧ W.drew.cell? ⟨g, 3, none⟩ = some v3 ∧ W.drew.cell? ⟨k, 0, none⟩ = some v4 ∧ W.drew.cell? ⟨k, 1, none⟩ = some v5 ∧ W.drew.cell? ⟨k, 2, none⟩ = some v6 ∧ W.drew.cell? ⟨k, 3, none⟩ = some v7 ∧ W.drew.cell? ⟨j, 0, none⟩ = some v8 ∧ W.drew.cell? ⟨j, 1, none⟩ = some v9 ∧ W.drew.cell? ⟨j, 2, none⟩ = some v10 ∧ W.drew.cell? ⟨j, 3, none⟩ = some v11 := h
theorem keep444s {W : World} {g k j : Nat} {v0 v1 v2 v3 v4 v5 v6 v7 v8 v9 v10 v11 : Value} {p : Addr} {u : Value} (hg : g ≠ p.block) (hk : k ≠ p.block) (hj : j ≠ p.block) (h : W.cell? ⟨g, 0, none⟩ = some v0 ∧ W.cell? ⟨g, 1, none⟩ = some v1 ∧ W.cell? ⟨g, 2, none⟩ = some v2 ∧ W.cell? ⟨g, 3, none⟩ = some v3 ∧ W.cell? ⟨k, 0, none⟩ = some v4 ∧ W.cell? ⟨k, 1, none⟩ = some v5 ∧ W.cell? ⟨k, 2, none⟩ = some v6 ∧ W.cell? ⟨k, 3, none⟩ = some v7 ∧ W.cell? ⟨j, 0, none⟩ = some v8 ∧ W.cell? ⟨j, 1, none⟩ = some v9 ∧ W.cell? ⟨j, 2, none⟩ = some v10 ∧ W.cell? ⟨j, 3, none⟩ = some v11) : (W.setCell p u).cell? ⟨g, 0, none⟩ = some v0 ∧ (W.setCell p u).cell? ⟨g, 1, none⟩ = some v1 ∧ (W.setCell p u).cell? ⟨g, 2, none⟩ = some v2 ∧ (W.setCell p u).cell? ⟨g, 3, none⟩ = some v3 ∧ (W.setCell p u).cell? ⟨k, 0, none⟩ = some v4 ∧ (W.setCell p u).cell? ⟨k, 1, none⟩ = some v5 ∧ (W.setCell p u).cell? ⟨k, 2, none⟩ = some v6 ∧ (W.setCell p u).cell? ⟨k, 3, none⟩ = some v7 ∧ (W.setCell p u).cell? ⟨j, 0, none⟩ = some v8 ∧ (W.setCell p u).cell? ⟨j, 1, none⟩ = some v9 ∧ (W.setCell p u).cell? ⟨j, 2, none⟩ = some v10 ∧ (W.setCell p u).cell? ⟨j, 3, none⟩ = some v11 :=
  ⟨keepSet h.1 hg, keepSet h.2.1 hg, keepSet h.2.2.1 hg, keepSet h.2.2.2.1 hg, keepSet h.2.2.2.2.1 hk, keepSet h.2.2.2.2.2.1 hk, keepSet h.2.2.2.2.2.2.1 hk, keepSet h.2.2.2.2.2.2.2.1 hk, keepSet h.2.2.2.2.2.2.2.2.1 hj, keepSet h.2.2.2.2.2.2.2.2.2.1 hj, keepSet h.2.2.2.2.2.2.2.2.2.2.1 hj, keepSet h.2.2.2.2.2.2.2.2.2.2.2 hj⟩

theorem keep12B {W w' : World} {g k j : Nat} {v0 v1 v2 v3 v4 v5 v6 v7 v8 v9 v10 v11 : Value} (h : W.cell? ⟨g, 0, none⟩ = some v0 ∧ W.cell? ⟨g, 1, none⟩ = some v1 ∧ W.cell? ⟨g, 2, none⟩ = some v2 ∧ W.cell? ⟨g, 3, none⟩ = some v3 ∧ W.cell? ⟨k, 0, none⟩ = some v4 ∧ W.cell? ⟨k, 1, none⟩ = some v5 ∧ W.cell? ⟨k, 2, none⟩ = some v6 ∧ W.cell? ⟨k, 3, none⟩ = some v7 ∧ W.cell? ⟨j, 0, none⟩ = some v8 ∧ W.cell? ⟨j, 1, none⟩ = some v9 ∧ W.cell? ⟨j, 2, none⟩ = some v10 ∧ W.cell? ⟨j, 3, none⟩ = some v11) (hb : Below W.heap.size W w') : w'.cell? ⟨g, 0, none⟩ = some v0 ∧ w'.cell? ⟨g, 1, none⟩ = some v1 ∧ w'.cell? ⟨g, 2, none⟩ = some v2 ∧ w'.cell? ⟨g, 3, none⟩ = some v3 ∧ w'.cell? ⟨k, 0, none⟩ = some v4 ∧ w'.cell? ⟨k, 1, none⟩ = some v5 ∧ w'.cell? ⟨k, 2, none⟩ = some v6 ∧ w'.cell? ⟨k, 3, none⟩ = some v7 ∧ w'.cell? ⟨j, 0, none⟩ = some v8 ∧ w'.cell? ⟨j, 1, none⟩ = some v9 ∧ w'.cell? ⟨j, 2, none⟩ = some v10 ∧ w'.cell? ⟨j, 3, none⟩ = some v11 ∧ Below W.heap.size W w' :=
  ⟨keepCell2 h.1 hb, keepCell2 h.2.1 hb, keepCell2 h.2.2.1 hb, keepCell2 h.2.2.2.1 hb, keepCell2 h.2.2.2.2.1 hb, keepCell2 h.2.2.2.2.2.1 hb, keepCell2 h.2.2.2.2.2.2.1 hb, keepCell2 h.2.2.2.2.2.2.2.1 hb, keepCell2 h.2.2.2.2.2.2.2.2.1 hb, keepCell2 h.2.2.2.2.2.2.2.2.2.1 hb, keepCell2 h.2.2.2.2.2.2.2.2.2.2.1 hb, keepCell2 h.2.2.2.2.2.2.2.2.2.2.2 hb, hb⟩
theorem vlZ_neg (n : Bool) (c : Nat) (x : Int) : vlZ (!n && !decide (c = 0)) c x = -vlZ n c x := by
  unfold vlZ
  by_cases z : c = 0
  · subst z
    rw [szN_zero]
    cases n <;> rfl
  · rw [decide_eq_false z]
    cases n
    · rfl
    · show (szN c x : Int) = -(-(szN c x : Int))
      omega

set_option maxRecDepth 100000 in
set_option maxHeartbeats 80000000 in
theorem decOrder_walk0 (AW : AwC) (AD : AddC) (n1 : Bool) (h1 l1 : Nat) (x1 : Int) (n2 : Bool) (h2 l2 : Nat) (x2 : Int) (n3 : Bool) (h3 l3 : Nat) (x3 : Int) (u1 : WW h1 l1) (y1 : -9223372036854775808 ≤ x1) (z1 : x1 ≤ 9223372036854775807) (u2 : WW h2 l2) (y2 : -9223372036854775808 ≤ x2) (z2 : x2 ≤ 9223372036854775807) (u3 : WW h3 l3) (y3 : -9223372036854775808 ≤ x3) (z3 : x3 ≤ 9223372036854775807) (w : World) (ht : Tab w) :
    Calls Tryd.prog 5 #[Dv n1 h1 l1 x1, Dv n2 h2 l2 x2, Dv n3 h3 l3 x3] w (RetB true w) := by
  have HT := Lib.hid ht
  have AWH := Lib.hid AW
  have ADH := Lib.hid AD
  have M1 := Lib.hid (make_any n1 h1 l1 x1 u1 y1 z1)
  have M2 := Lib.hid (make_any n2 h2 l2 x2 u2 y2 z2)
  have M3 := Lib.hid (make_any n3 h3 l3 x3 u3 y3 z3)
  clear ht AW AD u1 u2 u3 y1 y2 y3 z1 z2 z3
  go_enter Tryd.func5, Tryd.ntmps5
  go_wp2_with fail
  refine (AWH.out _ (HT.out.below (by go_grown))).mono ?_
  rintro e w1 ⟨rfl, hb1⟩
  have A0 := Lib.hid (HoldsD.below (by simp [HoldsD, go_sem]) hb1 : HoldsD w1 w.heap.size n1 h1 l1 x1)
  have A1 := Lib.hid (HoldsD.below (by simp [HoldsD, go_sem]) hb1 : HoldsD w1 (w.heap.size + 1) n2 h2 l2 x2)
  have A2 := Lib.hid (HoldsD.below (by simp [HoldsD, go_sem]) hb1 : HoldsD w1 (w.heap.size + 1 + 1) n3 h3 l3 x3)
  have B1 : Below w.heap.size w w1 := bstep (by go_grown) hb1
  clear hb1 AWH
  go_upto_region 3 with fail
  obtain ⟨⟨a1, a2, a3, a4⟩, -, a9⟩ := A0.out
  obtain ⟨⟨b1, b2, b3, b4⟩, -, b9⟩ := A1.out
  obtain ⟨⟨c1, c2, c3, c4⟩, -, c9⟩ := A2.out
  go_cut [7, 8, 9] (fun p q r W => ∃ (g k j : Nat) (na : Bool) (ah al : Nat) (ea : Int) (nb : Bool) (bh bl : Nat) (eb : Int) (nc : Bool) (ch cl : Nat) (ec : Int), p = .pointer (some ⟨g, 0, none⟩) ∧ q = .pointer (some ⟨k, 0, none⟩) ∧ r = .pointer (some ⟨j, 0, none⟩) ∧ NumOk na ah al ea ∧ NumOk nb bh bl eb ∧ NumOk nc ch cl ec ∧ HoldsD W g na ah al ea ∧ HoldsD W k nb bh bl eb ∧ HoldsD W j nc ch cl ec ∧ Below w.heap.size w W)
  case first =>
    refine wp_region_held_drew (S := fun w' => Below w1.heap.size w1 w') (by kernel_rfl) ?_ (fun hHeld => ?_)
    · exact (Below.refl _ _).drew
    refine wpAnyH_take (i := 0) (oi := { dst := some 15, op := Go.Op.load 26 (Go.Operand.tmp 3), type := 26, pos := "law.go:158", after := #[], guard := none }) (v := ?_) rfl (by kernel_rfl) (by kernel_rfl) (by kernel_rfl) (fun _ _ _ h => h) (Or.inl ⟨by rfl, ?_⟩) (by assumption) ?_
    rotate_left
    · intro w' hSw
      obtain ⟨k1, k2, k3, k4⟩ := keep4 hSw ⟨a1, a2, a3, a4⟩
      clear hSw
      go_simp
      try with_reducible rfl
    try simp only [Act.put, List.setIfInBounds_toArray, List.set_cons_zero, List.set_cons_succ]
    refine wpAnyH_take (i := 2) (oi := { dst := some 17, op := Go.Op.load 26 (Go.Operand.tmp 4), type := 26, pos := "law.go:158", after := #[], guard := none }) (v := ?_) rfl (by kernel_rfl) (by kernel_rfl) (by kernel_rfl) (fun _ _ _ h => h) (Or.inl ⟨by rfl, ?_⟩) (by assumption) ?_
    rotate_left
    · intro w' hSw
      obtain ⟨k1, k2, k3, k4⟩ := keep4 hSw ⟨b1, b2, b3, b4⟩
      clear hSw
      go_simp
      try with_reducible rfl
    try simp only [Act.put, List.setIfInBounds_toArray, List.set_cons_zero, List.set_cons_succ]
    refine wpAnyH_take (i := 4) (oi := { dst := some 19, op := Go.Op.load 26 (Go.Operand.tmp 5), type := 26, pos := "law.go:158", after := #[], guard := none }) (v := ?_) rfl (by kernel_rfl) (by kernel_rfl) (by kernel_rfl) (fun _ _ _ h => h) (Or.inl ⟨by rfl, ?_⟩) (by assumption) ?_
    rotate_left
    · intro w' hSw
      obtain ⟨k1, k2, k3, k4⟩ := keep4 hSw ⟨c1, c2, c3, c4⟩
      clear hSw
      go_simp
      try with_reducible rfl
    try simp only [Act.put, List.setIfInBounds_toArray, List.set_cons_zero, List.set_cons_succ]
    clear a1 a2 a3 a4 b1 b2 b3 b4 c1 c2 c3 c4
    refine o3_0_n (Lib.hid (HT.out.below B1)) (Lib.hid (show MakeC n1 h1 l1 x1 from M1.out)) (Lib.hid (show MakeC n2 h2 l2 x2 from M2.out)) (Lib.hid (show MakeC n3 h3 l3 x3 from M3.out)) (Lib.hid ?_) _ hHeld
    clear hHeld
    intro g k j na ah al ea nb bh bl eb nc ch cl ec W y1 y2 y3 y4 y5 y6 hbW
    have YY := Lib.hid (And.intro y1 (And.intro y2 (And.intro y3 (And.intro y4 (And.intro y5 (And.intro y6 (bstep B1 hbW)))))))
    clear y1 y2 y3 y4 y5 y6 hbW
    go_wp2
    go_meet
    case rel => exact ⟨g, k, j, na, ah, al, ea, nb, bh, bl, eb, nc, ch, cl, ec, rfl, rfl, rfl, YY.out.1, YY.out.2.1, YY.out.2.2.1, YY.out.2.2.2.1, YY.out.2.2.2.2.1, YY.out.2.2.2.2.2.1, YY.out.2.2.2.2.2.2⟩
  case rest =>
  obtain ⟨g, k, j, na, ah, al, ea, nb, bh, bl, eb, nc, ch, cl, ec, rfl, rfl, rfl, N1, N2, N3, P7, P8, P9, B2⟩ := hcut
  clear a1 a2 a3 a4 a9 b1 b2 b3 b4 b9 c1 c2 c3 c4 c9 A0 A1 A2 B1 M1 M2 M3
  replace P7 := Lib.hid P7
  replace P8 := Lib.hid P8
  replace P9 := Lib.hid P9
  obtain ⟨va, hva⟩ : ∃ v, v = vlZ na (nv ah al) ea := ⟨_, rfl⟩
  obtain ⟨vb, hvb⟩ : ∃ v, v = vlZ nb (nv bh bl) eb := ⟨_, rfl⟩
  obtain ⟨vc, hvc⟩ : ∃ v, v = vlZ nc (nv ch cl) ec := ⟨_, rfl⟩
  have cmpC : ∀ (n : Bool) (h l : Nat) (x : Int) (n' : Bool) (h' l' : Nat) (x' : Int), WW h l → WW h' l' → NumD (nv h l) x → NumD (nv h' l') x' → ∀ w : World, Tab w → Calls Tryd.prog 22 #[Dv n h l x, Dv n' h' l' x'] w (RetI (cmpZ (vlZ n (nv h l) x) (vlZ n' (nv h' l') x')) w) := by
    intro n h l x n' h' l' x' u u' d d' w ht
    have := cmp_dec n h l x n' h' l' x' u u' d.2.1 d.2.2 d'.2.1 d'.2.2 w ht
    rwa [cmpD_val d d'] at this
  have CAB := Lib.hid (cmpC na ah al ea nb bh bl eb N1.1 N2.1 N1.2.1 N2.2.1)
  have CBA := Lib.hid (cmpC nb bh bl eb na ah al ea N2.1 N1.1 N2.2.1 N1.2.1)
  have CBC := Lib.hid (cmpC nb bh bl eb nc ch cl ec N2.1 N3.1 N2.2.1 N3.2.1)
  have CAC := Lib.hid (cmpC na ah al ea nc ch cl ec N1.1 N3.1 N1.2.1 N3.2.1)
  have CMC := Lib.hid cmpC
  clear cmpC
  rw [← hva, ← hvb] at CAB
  rw [← hva, ← hvb, cmpZ_neg] at CBA
  rw [← hvb, ← hvc] at CBC
  rw [← hva, ← hvc] at CAC
  have HVA := Lib.hid hva
  have HVB := Lib.hid hvb
  have HN1 := Lib.hid N1
  have HN2 := Lib.hid N2
  clear hva hvb hvc N1 N2 N3
  obtain ⟨sa, hsa⟩ : ∃ s, s = (!na && !decide (nv ah al = 0)) := ⟨_, rfl⟩
  obtain ⟨sb, hsb⟩ : ∃ s, s = (!nb && !decide (nv bh bl = 0)) := ⟨_, rfl⟩
  have NA := Lib.hid (neg_any na ah al ea)
  have NB := Lib.hid (neg_any nb bh bl eb)
  rw [← hsa] at NA
  rw [← hsb] at NB
  have CNN := Lib.hid (CMC.out sa ah al ea sb bh bl eb HN1.out.1 HN2.out.1 HN1.out.2.1 HN2.out.2.1)
  rw [hsa, hsb, vlZ_neg, vlZ_neg, ← hsa, ← hsb, ← HVA.out, ← HVB.out, cmpZ_turn] at CNN
  clear hsa hsb
  obtain ⟨kk, hkk⟩ : ∃ kk, kk = cmpZ va vb := ⟨_, rfl⟩
  obtain ⟨k1, k2⟩ : -1 ≤ kk ∧ kk ≤ 1 := by rw [hkk]; unfold cmpZ; split <;> (try split) <;> omega
  have e1 : IntKind.i64.wrap (-kk) = -kk := by rw [IntKind.wrap_i64]; omega
  have e2 : IntKind.i64.wrap (-(-kk)) = kk := by rw [IntKind.wrap_i64]; omega
  have e3 : IntKind.i64.wrap kk = kk := by rw [IntKind.wrap_i64]; omega
  rw [← hkk] at CAB CBA CNN
  have HKK := Lib.hid hkk
  clear hkk
  generalize wc = V at *
  obtain ⟨⟨a1, a2, a3, a4⟩, -, a9⟩ := P7.out
  obtain ⟨⟨b1, b2, b3, b4⟩, -, b9⟩ := P8.out
  go_wp2_with fail
  refine (CAB.out _ (HT.out.below B2)).mono ?_
  rintro e V1 ⟨rfl, hb⟩
  clear a1 a2 a3 a4 a9 b1 b2 b3 b4 b9 CAB
  replace P7 := Lib.hid (P7.out.below hb)
  replace P8 := Lib.hid (P8.out.below hb)
  replace P9 := Lib.hid (P9.out.below hb)
  replace B2 := bstep B2 hb
  clear hb
  go_upto_region 5 with fail
  obtain ⟨⟨a1, a2, a3, a4⟩, -, a9⟩ := P7.out
  obtain ⟨⟨b1, b2, b3, b4⟩, -, b9⟩ := P8.out
  obtain ⟨⟨c1, c2, c3, c4⟩, -, c9⟩ := P9.out
  go_cut [55] (fun t W => t = .bool false ∧ Below V1.heap.size V1 W)
  case first =>
    by_cases k0 : kk ≤ 0
    · have t0 : decide (kk ≤ 0) = true := decide_eq_true k0
      obtain ⟨cbc, hbc⟩ : ∃ c, c = cmpZ vb vc := ⟨_, rfl⟩
      obtain ⟨cac, hac⟩ : ∃ c, c = cmpZ va vc := ⟨_, rfl⟩
      rw [← hbc] at CBC
      rw [← hac] at CAC
      by_cases b0 : cbc ≤ 0
      · have t1 : decide (cbc ≤ 0) = true := decide_eq_true b0
        have t2 : decide (0 < cac) = false := by
          have p := cmpZ_le.1 (HKK.out ▸ k0)
          have q := cmpZ_le.1 (hbc ▸ b0)
          have := cmpZ_le.2 (Int.le_trans p q)
          exact decide_eq_false (by omega)
        clear hbc hac b0 k0 k1 k2
        go_region_held3 (fun w' => w'.cell? ⟨g, 0, none⟩ = some (.bool na) ∧ w'.cell? ⟨g, 1, none⟩ = some (.int .u64 (ah : Int)) ∧ w'.cell? ⟨g, 2, none⟩ = some (.int .u64 (al : Int)) ∧ w'.cell? ⟨g, 3, none⟩ = some (.int .i64 ea) ∧ w'.cell? ⟨k, 0, none⟩ = some (.bool nb) ∧ w'.cell? ⟨k, 1, none⟩ = some (.int .u64 (bh : Int)) ∧ w'.cell? ⟨k, 2, none⟩ = some (.int .u64 (bl : Int)) ∧ w'.cell? ⟨k, 3, none⟩ = some (.int .i64 eb) ∧ w'.cell? ⟨j, 0, none⟩ = some (.bool nc) ∧ w'.cell? ⟨j, 1, none⟩ = some (.int .u64 (ch : Int)) ∧ w'.cell? ⟨j, 2, none⟩ = some (.int .u64 (cl : Int)) ∧ w'.cell? ⟨j, 3, none⟩ = some (.int .i64 ec))
          (repeat' (first | (with_reducible assumption) | (with_reducible refine keep444d ?_) | (with_reducible exact ⟨a1, a2, a3, a4, b1, b2, b3, b4, c1, c2, c3, c4⟩) | (with_reducible refine keep444 (by with_reducible assumption) ?_)))
          (first
          | (go_at_call 22; (first | (with_reducible refine (CBA.out _ ?_).mono ?_) | (with_reducible refine (CBC.out _ ?_).mono ?_) | (with_reducible refine (CAC.out _ ?_).mono ?_) | (with_reducible refine (CNN.out _ ?_).mono ?_)); (exact HT.out.below (by repeat' (first | (with_reducible exact B2) | (with_reducible refine Below.drew ?_) | (with_reducible refine ballD1 ?_ _) | (with_reducible refine bstep ?_ (by with_reducible assumption))))); rintro e wC ⟨rfl, hbC⟩)
          | (go_at_call 19; (first | (with_reducible refine (NA.out _).mono ?_) | (with_reducible refine (NB.out _).mono ?_)); rintro e wC ⟨nN, hN, lN, xN, ⟨rfl, rfl, rfl, rfl⟩, rfl, hbC⟩))
        all_goals
          go_wp2
          go_meet
          case rel =>
            refine ⟨rfl, ?_⟩
            repeat' (first | (with_reducible exact Below.refl _ _) | (with_reducible refine Below.drew ?_) | (with_reducible refine bstep ?_ (by with_reducible assumption)))
      · have t1 : decide (cbc ≤ 0) = false := decide_eq_false b0
        clear hbc hac b0 k0 k1 k2
        -- <case2>
        refine wp_region_held_drew (S := fun w' => w'.cell? ⟨g, 0, none⟩ = some (.bool na) ∧ w'.cell? ⟨g, 1, none⟩ = some (.int .u64 (ah : Int)) ∧ w'.cell? ⟨g, 2, none⟩ = some (.int .u64 (al : Int)) ∧ w'.cell? ⟨g, 3, none⟩ = some (.int .i64 ea) ∧ w'.cell? ⟨k, 0, none⟩ = some (.bool nb) ∧ w'.cell? ⟨k, 1, none⟩ = some (.int .u64 (bh : Int)) ∧ w'.cell? ⟨k, 2, none⟩ = some (.int .u64 (bl : Int)) ∧ w'.cell? ⟨k, 3, none⟩ = some (.int .i64 eb) ∧ w'.cell? ⟨j, 0, none⟩ = some (.bool nc) ∧ w'.cell? ⟨j, 1, none⟩ = some (.int .u64 (ch : Int)) ∧ w'.cell? ⟨j, 2, none⟩ = some (.int .u64 (cl : Int)) ∧ w'.cell? ⟨j, 3, none⟩ = some (.int .i64 ec) ∧ Below V1.heap.size V1 w') (by kernel_rfl) ?_ (fun hHeld => ?_)
        · exact keep12B ⟨a1, a2, a3, a4, b1, b2, b3, b4, c1, c2, c3, c4⟩ (Below.refl _ _).drew
        refine wpAnyH_take (i := 0) (oi := { dst := some 24, op := Go.Op.move (Go.Operand.tmp 10), type := 3, pos := "law.go:160", after := #[], guard := none }) (v := ?_) rfl (by kernel_rfl) (by kernel_rfl) (by kernel_rfl) (fun _ _ _ h => h) (Or.inl ⟨by rfl, ?_⟩) (by assumption) ?_
        rotate_left
        · intro w hSw
          try dsimp only at hSw
          go_simp
          try with_reducible rfl
        try simp only [Act.put, List.setIfInBounds_toArray, List.set_cons_zero, List.set_cons_succ]
        refine wpAnyH_take (i := 1) (oi := { dst := some 25, op := Go.Op.load 28 (Go.Operand.tmp 8), type := 28, pos := "law.go:160", after := #[], guard := none }) (v := ?_) rfl (by kernel_rfl) (by kernel_rfl) (by kernel_rfl) (fun _ _ _ h => h) (Or.inl ⟨by rfl, ?_⟩) (by assumption) ?_
        rotate_left
        · intro w hSw
          try dsimp only at hSw
          go_simp
          try with_reducible rfl
        try simp only [Act.put, List.setIfInBounds_toArray, List.set_cons_zero, List.set_cons_succ]
        refine wpAnyH_take (i := 2) (oi := { dst := some 26, op := Go.Op.load 28 (Go.Operand.tmp 7), type := 28, pos := "law.go:160", after := #[], guard := none }) (v := ?_) rfl (by kernel_rfl) (by kernel_rfl) (by kernel_rfl) (fun _ _ _ h => h) (Or.inl ⟨by rfl, ?_⟩) (by assumption) ?_
        rotate_left
        · intro w hSw
          try dsimp only at hSw
          go_simp
          try with_reducible rfl
        try simp only [Act.put, List.setIfInBounds_toArray, List.set_cons_zero, List.set_cons_succ]
        refine wpAnyH_ready (rs := [3]) (by kernel_rfl) (by simp) ?_
        refine AllReadyH.cons (o := { dst := some 27, op := Go.Op.call { callee := Go.Callee.value (Go.Operand.func 22), args := #[Go.Operand.tmp 25, Go.Operand.tmp 26], argTypes := #[28, 28] }, type := 3, pos := "law.go:160", after := #[{ on := 1, ground := Go.Ground.data }, { on := 2, ground := Go.Ground.data }], guard := none }) rfl (fun K hK => ?_) AllReadyH.nil
        go_simp
        refine (CBA.out _ (HT.out.below (bstep B2 hHeld.2.2.2.2.2.2.2.2.2.2.2.2))).mono ?_
        rintro e v1 ⟨rfl, hbv1⟩
        have HBx := Lib.hid (bstep hHeld.2.2.2.2.2.2.2.2.2.2.2.2 hbv1)
        clear hHeld hbv1
        refine hK.out _ _ ?_ (fun hHeld => ?_)
        · exact keep12B ⟨a1, a2, a3, a4, b1, b2, b3, b4, c1, c2, c3, c4⟩ HBx.out
        clear hK K HBx
        try simp only [Act.put, List.setIfInBounds_toArray, List.set_cons_zero, List.set_cons_succ]
        refine wpAnyH_take (i := 4) (oi := { dst := some 28, op := Go.Op.unOp Go.UnOp.neg 3 (Go.Operand.tmp 27), type := 3, pos := "law.go:160", after := #[{ on := 3, ground := Go.Ground.data }], guard := none }) (v := ?_) rfl (by kernel_rfl) (by kernel_rfl) (by kernel_rfl) (fun _ _ _ h => h) (Or.inl ⟨by rfl, ?_⟩) (by assumption) ?_
        rotate_left
        · intro w hSw
          try dsimp only at hSw
          go_simp
          try with_reducible rfl
        try simp only [Act.put, List.setIfInBounds_toArray, List.set_cons_zero, List.set_cons_succ]
        refine wpAnyH_take (i := 5) (oi := { dst := some 29, op := Go.Op.binOp Go.BinOp.neq 3 (Go.Operand.tmp 24) (Go.Operand.tmp 28) 3, type := 4, pos := "law.go:160", after := #[{ on := 0, ground := Go.Ground.data }, { on := 4, ground := Go.Ground.data }], guard := none }) (v := ?_) rfl (by kernel_rfl) (by kernel_rfl) (by kernel_rfl) (fun _ _ _ h => h) (Or.inl ⟨by rfl, ?_⟩) (by assumption) ?_
        rotate_left
        · intro w hSw
          try dsimp only at hSw
          go_simp
          try with_reducible rfl
        try simp only [Act.put, List.setIfInBounds_toArray, List.set_cons_zero, List.set_cons_succ]
        refine wpAnyH_take (i := 6) (oi := { dst := some 30, op := Go.Op.move (Go.Operand.tmp 29), type := 4, pos := "law.go:160", after := #[{ on := 5, ground := Go.Ground.data }, { on := 3, ground := Go.Ground.chain }], guard := none }) (v := ?_) rfl (by kernel_rfl) (by kernel_rfl) (by kernel_rfl) (fun _ _ _ h => h) (Or.inl ⟨by rfl, ?_⟩) (by assumption) ?_
        rotate_left
        · intro w hSw
          try dsimp only at hSw
          go_simp
          try with_reducible rfl
        try simp only [Act.put, List.setIfInBounds_toArray, List.set_cons_zero, List.set_cons_succ]
        refine wpAnyH_take (i := 7) (oi := { dst := some 31, op := Go.Op.move (Go.Operand.tmp 10), type := 3, pos := "law.go:160", after := #[{ on := 6, ground := Go.Ground.guard }], guard := some (6, false) }) (v := ?_) rfl (by kernel_rfl) (by kernel_rfl) (by kernel_rfl) (fun _ _ _ h => h) (Or.inl ⟨by rfl, ?_⟩) (by assumption) ?_
        rotate_left
        · intro w hSw
          try dsimp only at hSw
          go_simp
          try with_reducible rfl
        try simp only [Act.put, List.setIfInBounds_toArray, List.set_cons_zero, List.set_cons_succ]
        refine wpAnyH_take (i := 8) (oi := { dst := some 32, op := Go.Op.binOp Go.BinOp.leq 3 (Go.Operand.tmp 31) (Go.Operand.const (Go.Value.int Go.IntKind.i64 0)) 3, type := 4, pos := "law.go:160", after := #[{ on := 7, ground := Go.Ground.data }, { on := 6, ground := Go.Ground.guard }], guard := some (6, false) }) (v := ?_) rfl (by kernel_rfl) (by kernel_rfl) (by kernel_rfl) (fun _ _ _ h => h) (Or.inl ⟨by rfl, ?_⟩) (by assumption) ?_
        rotate_left
        · intro w hSw
          try dsimp only at hSw
          go_simp
          try with_reducible rfl
        try simp only [Act.put, List.setIfInBounds_toArray, List.set_cons_zero, List.set_cons_succ]
        refine wpAnyH_take (i := 9) (oi := { dst := some 33, op := Go.Op.move (Go.Operand.tmp 32), type := 4, pos := "law.go:160", after := #[{ on := 8, ground := Go.Ground.data }, { on := 6, ground := Go.Ground.chain }, { on := 6, ground := Go.Ground.guard }], guard := some (6, false) }) (v := ?_) rfl (by kernel_rfl) (by kernel_rfl) (by kernel_rfl) (fun _ _ _ h => h) (Or.inl ⟨by rfl, ?_⟩) (by assumption) ?_
        rotate_left
        · intro w hSw
          try dsimp only at hSw
          go_simp
          try with_reducible rfl
        try simp only [Act.put, List.setIfInBounds_toArray, List.set_cons_zero, List.set_cons_succ]
        refine wpAnyH_take (i := 10) (oi := { dst := some 34, op := Go.Op.load 28 (Go.Operand.tmp 8), type := 28, pos := "law.go:160", after := #[{ on := 9, ground := Go.Ground.guard }], guard := some (9, true) }) (v := ?_) rfl (by kernel_rfl) (by kernel_rfl) (by kernel_rfl) (fun _ _ _ h => h) (Or.inl ⟨by rfl, ?_⟩) (by assumption) ?_
        rotate_left
        · intro w hSw
          try dsimp only at hSw
          go_simp
          try with_reducible rfl
        try simp only [Act.put, List.setIfInBounds_toArray, List.set_cons_zero, List.set_cons_succ]
        refine wpAnyH_take (i := 11) (oi := { dst := some 35, op := Go.Op.load 28 (Go.Operand.tmp 9), type := 28, pos := "law.go:160", after := #[{ on := 9, ground := Go.Ground.guard }], guard := some (9, true) }) (v := ?_) rfl (by kernel_rfl) (by kernel_rfl) (by kernel_rfl) (fun _ _ _ h => h) (Or.inl ⟨by rfl, ?_⟩) (by assumption) ?_
        rotate_left
        · intro w hSw
          try dsimp only at hSw
          go_simp
          try with_reducible rfl
        try simp only [Act.put, List.setIfInBounds_toArray, List.set_cons_zero, List.set_cons_succ]
        refine wpAnyH_ready (rs := [12]) (by kernel_rfl) (by simp) ?_
        refine AllReadyH.cons (o := { dst := some 36, op := Go.Op.call { callee := Go.Callee.value (Go.Operand.func 22), args := #[Go.Operand.tmp 34, Go.Operand.tmp 35], argTypes := #[28, 28] }, type := 3, pos := "law.go:160", after := #[{ on := 10, ground := Go.Ground.data }, { on := 11, ground := Go.Ground.data }, { on := 9, ground := Go.Ground.chain }, { on := 9, ground := Go.Ground.guard }], guard := some (9, true) }) rfl (fun K hK => ?_) AllReadyH.nil
        go_simp
        refine (CBC.out _ (HT.out.below (bstep B2 hHeld.2.2.2.2.2.2.2.2.2.2.2.2))).mono ?_
        rintro e v2 ⟨rfl, hbv2⟩
        have HBx := Lib.hid (bstep hHeld.2.2.2.2.2.2.2.2.2.2.2.2 hbv2)
        clear hHeld hbv2
        refine hK.out _ _ ?_ (fun hHeld => ?_)
        · exact keep12B ⟨a1, a2, a3, a4, b1, b2, b3, b4, c1, c2, c3, c4⟩ HBx.out
        clear hK K HBx
        try simp only [Act.put, List.setIfInBounds_toArray, List.set_cons_zero, List.set_cons_succ]
        refine wpAnyH_take (i := 13) (oi := { dst := some 37, op := Go.Op.binOp Go.BinOp.leq 3 (Go.Operand.tmp 36) (Go.Operand.const (Go.Value.int Go.IntKind.i64 0)) 3, type := 4, pos := "law.go:160", after := #[{ on := 12, ground := Go.Ground.data }, { on := 9, ground := Go.Ground.guard }], guard := some (9, true) }) (v := ?_) rfl (by kernel_rfl) (by kernel_rfl) (by kernel_rfl) (fun _ _ _ h => h) (Or.inl ⟨by rfl, ?_⟩) (by assumption) ?_
        rotate_left
        · intro w hSw
          try dsimp only at hSw
          go_simp
          try with_reducible rfl
        try simp only [Act.put, List.setIfInBounds_toArray, List.set_cons_zero, List.set_cons_succ]
        refine wpAnyH_take (i := 14) (oi := { dst := some 38, op := Go.Op.pick (Go.Operand.tmp 33) (Go.Operand.tmp 37) (Go.Operand.const (Go.Value.bool false)), type := 4, pos := "law.go:160", after := #[{ on := 9, ground := Go.Ground.data }, { on := 13, ground := Go.Ground.data }, { on := 6, ground := Go.Ground.guard }], guard := some (6, false) }) (v := ?_) rfl (by kernel_rfl) (by kernel_rfl) (by kernel_rfl) (fun _ _ _ h => h) (Or.inl ⟨by rfl, ?_⟩) (by assumption) ?_
        rotate_left
        · intro w hSw
          try dsimp only at hSw
          go_simp
          try with_reducible rfl
        try simp only [Act.put, List.setIfInBounds_toArray, List.set_cons_zero, List.set_cons_succ]
        refine wpAnyH_take (i := 15) (oi := { dst := some 39, op := Go.Op.move (Go.Operand.tmp 38), type := 4, pos := "law.go:160", after := #[{ on := 14, ground := Go.Ground.data }, { on := 12, ground := Go.Ground.chain }, { on := 6, ground := Go.Ground.guard }], guard := some (6, false) }) (v := ?_) rfl (by kernel_rfl) (by kernel_rfl) (by kernel_rfl) (fun _ _ _ h => h) (Or.inl ⟨by rfl, ?_⟩) (by assumption) ?_
        rotate_left
        · intro w hSw
          try dsimp only at hSw
          go_simp
          try with_reducible rfl
        try simp only [Act.put, List.setIfInBounds_toArray, List.set_cons_zero, List.set_cons_succ]
        refine wpAnyH_take (i := 16) (oi := { dst := some 40, op := Go.Op.load 28 (Go.Operand.tmp 7), type := 28, pos := "law.go:160", after := #[{ on := 15, ground := Go.Ground.guard }], guard := some (15, true) }) (v := undef) rfl (by kernel_rfl) (by kernel_rfl) (by kernel_rfl) (fun _ _ _ h => h) (Or.inr ⟨by rfl, rfl⟩) (by assumption) ?_
        try simp only [Act.put, List.setIfInBounds_toArray, List.set_cons_zero, List.set_cons_succ]
        refine wpAnyH_take (i := 17) (oi := { dst := some 41, op := Go.Op.load 28 (Go.Operand.tmp 9), type := 28, pos := "law.go:160", after := #[{ on := 15, ground := Go.Ground.guard }], guard := some (15, true) }) (v := undef) rfl (by kernel_rfl) (by kernel_rfl) (by kernel_rfl) (fun _ _ _ h => h) (Or.inr ⟨by rfl, rfl⟩) (by assumption) ?_
        try simp only [Act.put, List.setIfInBounds_toArray, List.set_cons_zero, List.set_cons_succ]
        refine wpAnyH_take (i := 18) (oi := { dst := some 42, op := Go.Op.call { callee := Go.Callee.value (Go.Operand.func 22), args := #[Go.Operand.tmp 40, Go.Operand.tmp 41], argTypes := #[28, 28] }, type := 3, pos := "law.go:160", after := #[{ on := 16, ground := Go.Ground.data }, { on := 17, ground := Go.Ground.data }, { on := 15, ground := Go.Ground.chain }, { on := 15, ground := Go.Ground.guard }], guard := some (15, true) }) (v := undef) rfl (by kernel_rfl) (by kernel_rfl) (by kernel_rfl) (fun _ _ _ h => h) (Or.inr ⟨by rfl, rfl⟩) (by assumption) ?_
        try simp only [Act.put, List.setIfInBounds_toArray, List.set_cons_zero, List.set_cons_succ]
        refine wpAnyH_take (i := 19) (oi := { dst := some 43, op := Go.Op.binOp Go.BinOp.gtr 3 (Go.Operand.tmp 42) (Go.Operand.const (Go.Value.int Go.IntKind.i64 0)) 3, type := 4, pos := "law.go:160", after := #[{ on := 18, ground := Go.Ground.data }, { on := 15, ground := Go.Ground.guard }], guard := some (15, true) }) (v := undef) rfl (by kernel_rfl) (by kernel_rfl) (by kernel_rfl) (fun _ _ _ h => h) (Or.inr ⟨by rfl, rfl⟩) (by assumption) ?_
        try simp only [Act.put, List.setIfInBounds_toArray, List.set_cons_zero, List.set_cons_succ]
        refine wpAnyH_take (i := 20) (oi := { dst := some 44, op := Go.Op.pick (Go.Operand.tmp 39) (Go.Operand.tmp 43) (Go.Operand.const (Go.Value.bool false)), type := 4, pos := "law.go:160", after := #[{ on := 15, ground := Go.Ground.data }, { on := 19, ground := Go.Ground.data }, { on := 6, ground := Go.Ground.guard }], guard := some (6, false) }) (v := ?_) rfl (by kernel_rfl) (by kernel_rfl) (by kernel_rfl) (fun _ _ _ h => h) (Or.inl ⟨by rfl, ?_⟩) (by assumption) ?_
        rotate_left
        · intro w hSw
          try dsimp only at hSw
          go_simp
          try with_reducible rfl
        try simp only [Act.put, List.setIfInBounds_toArray, List.set_cons_zero, List.set_cons_succ]
        refine wpAnyH_take (i := 21) (oi := { dst := some 45, op := Go.Op.pick (Go.Operand.tmp 30) (Go.Operand.const (Go.Value.bool true)) (Go.Operand.tmp 44), type := 4, pos := "law.go:160", after := #[{ on := 6, ground := Go.Ground.data }, { on := 20, ground := Go.Ground.data }], guard := none }) (v := ?_) rfl (by kernel_rfl) (by kernel_rfl) (by kernel_rfl) (fun _ _ _ h => h) (Or.inl ⟨by rfl, ?_⟩) (by assumption) ?_
        rotate_left
        · intro w hSw
          try dsimp only at hSw
          go_simp
          try with_reducible rfl
        try simp only [Act.put, List.setIfInBounds_toArray, List.set_cons_zero, List.set_cons_succ]
        refine wpAnyH_take (i := 22) (oi := { dst := some 46, op := Go.Op.move (Go.Operand.tmp 45), type := 4, pos := "law.go:160", after := #[{ on := 21, ground := Go.Ground.data }, { on := 18, ground := Go.Ground.chain }], guard := none }) (v := ?_) rfl (by kernel_rfl) (by kernel_rfl) (by kernel_rfl) (fun _ _ _ h => h) (Or.inl ⟨by rfl, ?_⟩) (by assumption) ?_
        rotate_left
        · intro w hSw
          try dsimp only at hSw
          go_simp
          try with_reducible rfl
        try simp only [Act.put, List.setIfInBounds_toArray, List.set_cons_zero, List.set_cons_succ]
        refine wpAnyH_take (i := 23) (oi := { dst := some 47, op := Go.Op.load 28 (Go.Operand.tmp 7), type := 28, pos := "law.go:160", after := #[{ on := 22, ground := Go.Ground.guard }], guard := some (22, false) }) (v := ?_) rfl (by kernel_rfl) (by kernel_rfl) (by kernel_rfl) (fun _ _ _ h => h) (Or.inl ⟨by rfl, ?_⟩) (by assumption) ?_
        rotate_left
        · intro w hSw
          try dsimp only at hSw
          go_simp
          try with_reducible rfl
        try simp only [Act.put, List.setIfInBounds_toArray, List.set_cons_zero, List.set_cons_succ]
        refine wpAnyH_take (i := 25) (oi := { dst := some 49, op := Go.Op.load 28 (Go.Operand.tmp 8), type := 28, pos := "law.go:160", after := #[{ on := 22, ground := Go.Ground.guard }], guard := some (22, false) }) (v := ?_) rfl (by kernel_rfl) (by kernel_rfl) (by kernel_rfl) (fun _ _ _ h => h) (Or.inl ⟨by rfl, ?_⟩) (by assumption) ?_
        rotate_left
        · intro w hSw
          try dsimp only at hSw
          go_simp
          try with_reducible rfl
        try simp only [Act.put, List.setIfInBounds_toArray, List.set_cons_zero, List.set_cons_succ]
        refine wpAnyH_take (i := 28) (oi := { dst := some 52, op := Go.Op.move (Go.Operand.tmp 10), type := 3, pos := "law.go:160", after := #[{ on := 22, ground := Go.Ground.guard }], guard := some (22, false) }) (v := ?_) rfl (by kernel_rfl) (by kernel_rfl) (by kernel_rfl) (fun _ _ _ h => h) (Or.inl ⟨by rfl, ?_⟩) (by assumption) ?_
        rotate_left
        · intro w hSw
          try dsimp only at hSw
          go_simp
          try with_reducible rfl
        try simp only [Act.put, List.setIfInBounds_toArray, List.set_cons_zero, List.set_cons_succ]
        refine wpAnyH_take (i := 29) (oi := { dst := some 53, op := Go.Op.unOp Go.UnOp.neg 3 (Go.Operand.tmp 52), type := 3, pos := "law.go:160", after := #[{ on := 28, ground := Go.Ground.data }, { on := 22, ground := Go.Ground.guard }], guard := some (22, false) }) (v := ?_) rfl (by kernel_rfl) (by kernel_rfl) (by kernel_rfl) (fun _ _ _ h => h) (Or.inl ⟨by rfl, ?_⟩) (by assumption) ?_
        rotate_left
        · intro w hSw
          try dsimp only at hSw
          go_simp
          try with_reducible rfl
        try simp only [Act.put, List.setIfInBounds_toArray, List.set_cons_zero, List.set_cons_succ]
        refine wpAnyH_ready (rs := [24]) (by kernel_rfl) (by simp) ?_
        refine AllReadyH.cons (o := { dst := some 48, op := Go.Op.call { callee := Go.Callee.value (Go.Operand.func 19), args := #[Go.Operand.tmp 47], argTypes := #[28] }, type := 28, pos := "law.go:160", after := #[{ on := 23, ground := Go.Ground.data }, { on := 22, ground := Go.Ground.chain }, { on := 22, ground := Go.Ground.guard }], guard := some (22, false) }) rfl (fun K hK => ?_) AllReadyH.nil
        go_simp
        refine (NA.out _).mono ?_
        rintro e v3 ⟨nv3, hv3, lv3, xv3, ⟨rfl, rfl, rfl, rfl⟩, rfl, hbv3⟩
        have HBx := Lib.hid (bstep hHeld.2.2.2.2.2.2.2.2.2.2.2.2 hbv3)
        clear hHeld hbv3
        refine hK.out _ _ ?_ (fun hHeld => ?_)
        · exact keep12B ⟨a1, a2, a3, a4, b1, b2, b3, b4, c1, c2, c3, c4⟩ HBx.out
        clear hK K HBx
        try simp only [Act.put, List.setIfInBounds_toArray, List.set_cons_zero, List.set_cons_succ]
        refine wpAnyH_ready (rs := [26]) (by kernel_rfl) (by simp) ?_
        refine AllReadyH.cons (o := { dst := some 50, op := Go.Op.call { callee := Go.Callee.value (Go.Operand.func 19), args := #[Go.Operand.tmp 49], argTypes := #[28] }, type := 28, pos := "law.go:160", after := #[{ on := 25, ground := Go.Ground.data }, { on := 24, ground := Go.Ground.chain }, { on := 22, ground := Go.Ground.guard }], guard := some (22, false) }) rfl (fun K hK => ?_) AllReadyH.nil
        go_simp
        refine (NB.out _).mono ?_
        rintro e v4 ⟨nv4, hv4, lv4, xv4, ⟨rfl, rfl, rfl, rfl⟩, rfl, hbv4⟩
        have HBx := Lib.hid (bstep hHeld.2.2.2.2.2.2.2.2.2.2.2.2 hbv4)
        clear hHeld hbv4
        refine hK.out _ _ ?_ (fun hHeld => ?_)
        · exact keep12B ⟨a1, a2, a3, a4, b1, b2, b3, b4, c1, c2, c3, c4⟩ HBx.out
        clear hK K HBx
        try simp only [Act.put, List.setIfInBounds_toArray, List.set_cons_zero, List.set_cons_succ]
        refine wpAnyH_ready (rs := [27]) (by kernel_rfl) (by simp) ?_
        refine AllReadyH.cons (o := { dst := some 51, op := Go.Op.call { callee := Go.Callee.value (Go.Operand.func 22), args := #[Go.Operand.tmp 48, Go.Operand.tmp 50], argTypes := #[28, 28] }, type := 3, pos := "law.go:160", after := #[{ on := 24, ground := Go.Ground.data }, { on := 26, ground := Go.Ground.data }, { on := 26, ground := Go.Ground.chain }, { on := 22, ground := Go.Ground.guard }], guard := some (22, false) }) rfl (fun K hK => ?_) AllReadyH.nil
        go_simp
        refine (CNN.out _ (HT.out.below (bstep B2 hHeld.2.2.2.2.2.2.2.2.2.2.2.2))).mono ?_
        rintro e v5 ⟨rfl, hbv5⟩
        have HBx := Lib.hid (bstep hHeld.2.2.2.2.2.2.2.2.2.2.2.2 hbv5)
        clear hHeld hbv5
        refine hK.out _ _ ?_ (fun hHeld => ?_)
        · exact keep12B ⟨a1, a2, a3, a4, b1, b2, b3, b4, c1, c2, c3, c4⟩ HBx.out
        clear hK K HBx
        try simp only [Act.put, List.setIfInBounds_toArray, List.set_cons_zero, List.set_cons_succ]
        refine wpAnyH_take (i := 30) (oi := { dst := some 54, op := Go.Op.binOp Go.BinOp.neq 3 (Go.Operand.tmp 51) (Go.Operand.tmp 53) 3, type := 4, pos := "law.go:160", after := #[{ on := 27, ground := Go.Ground.data }, { on := 29, ground := Go.Ground.data }, { on := 22, ground := Go.Ground.guard }], guard := some (22, false) }) (v := ?_) rfl (by kernel_rfl) (by kernel_rfl) (by kernel_rfl) (fun _ _ _ h => h) (Or.inl ⟨by rfl, ?_⟩) (by assumption) ?_
        rotate_left
        · intro w hSw
          try dsimp only at hSw
          go_simp
          try with_reducible rfl
        try simp only [Act.put, List.setIfInBounds_toArray, List.set_cons_zero, List.set_cons_succ]
        refine wpAnyH_take (i := 31) (oi := { dst := some 55, op := Go.Op.pick (Go.Operand.tmp 46) (Go.Operand.const (Go.Value.bool true)) (Go.Operand.tmp 54), type := 4, pos := "law.go:160", after := #[{ on := 22, ground := Go.Ground.data }, { on := 30, ground := Go.Ground.data }], guard := none }) (v := ?_) rfl (by kernel_rfl) (by kernel_rfl) (by kernel_rfl) (fun _ _ _ h => h) (Or.inl ⟨by rfl, ?_⟩) (by assumption) ?_
        rotate_left
        · intro w hSw
          try dsimp only at hSw
          go_simp
          try with_reducible rfl
        try simp only [Act.put, List.setIfInBounds_toArray, List.set_cons_zero, List.set_cons_succ]
        refine wpAnyH_done (by kernel_rfl) ?_ _
        go_wp2
        go_meet
        case rel => exact ⟨rfl, hHeld.2.2.2.2.2.2.2.2.2.2.2.2⟩
        -- </case2>
    · have t0 : decide (kk ≤ 0) = false := decide_eq_false k0
      clear k0 k1 k2
      -- <case1>
      refine wp_region_held_drew (S := fun w' => w'.cell? ⟨g, 0, none⟩ = some (.bool na) ∧ w'.cell? ⟨g, 1, none⟩ = some (.int .u64 (ah : Int)) ∧ w'.cell? ⟨g, 2, none⟩ = some (.int .u64 (al : Int)) ∧ w'.cell? ⟨g, 3, none⟩ = some (.int .i64 ea) ∧ w'.cell? ⟨k, 0, none⟩ = some (.bool nb) ∧ w'.cell? ⟨k, 1, none⟩ = some (.int .u64 (bh : Int)) ∧ w'.cell? ⟨k, 2, none⟩ = some (.int .u64 (bl : Int)) ∧ w'.cell? ⟨k, 3, none⟩ = some (.int .i64 eb) ∧ w'.cell? ⟨j, 0, none⟩ = some (.bool nc) ∧ w'.cell? ⟨j, 1, none⟩ = some (.int .u64 (ch : Int)) ∧ w'.cell? ⟨j, 2, none⟩ = some (.int .u64 (cl : Int)) ∧ w'.cell? ⟨j, 3, none⟩ = some (.int .i64 ec) ∧ Below V1.heap.size V1 w') (by kernel_rfl) ?_ (fun hHeld => ?_)
      · exact keep12B ⟨a1, a2, a3, a4, b1, b2, b3, b4, c1, c2, c3, c4⟩ (Below.refl _ _).drew
      refine wpAnyH_take (i := 0) (oi := { dst := some 24, op := Go.Op.move (Go.Operand.tmp 10), type := 3, pos := "law.go:160", after := #[], guard := none }) (v := ?_) rfl (by kernel_rfl) (by kernel_rfl) (by kernel_rfl) (fun _ _ _ h => h) (Or.inl ⟨by rfl, ?_⟩) (by assumption) ?_
      rotate_left
      · intro w hSw
        try dsimp only at hSw
        go_simp
        try with_reducible rfl
      try simp only [Act.put, List.setIfInBounds_toArray, List.set_cons_zero, List.set_cons_succ]
      refine wpAnyH_take (i := 1) (oi := { dst := some 25, op := Go.Op.load 28 (Go.Operand.tmp 8), type := 28, pos := "law.go:160", after := #[], guard := none }) (v := ?_) rfl (by kernel_rfl) (by kernel_rfl) (by kernel_rfl) (fun _ _ _ h => h) (Or.inl ⟨by rfl, ?_⟩) (by assumption) ?_
      rotate_left
      · intro w hSw
        try dsimp only at hSw
        go_simp
        try with_reducible rfl
      try simp only [Act.put, List.setIfInBounds_toArray, List.set_cons_zero, List.set_cons_succ]
      refine wpAnyH_take (i := 2) (oi := { dst := some 26, op := Go.Op.load 28 (Go.Operand.tmp 7), type := 28, pos := "law.go:160", after := #[], guard := none }) (v := ?_) rfl (by kernel_rfl) (by kernel_rfl) (by kernel_rfl) (fun _ _ _ h => h) (Or.inl ⟨by rfl, ?_⟩) (by assumption) ?_
      rotate_left
      · intro w hSw
        try dsimp only at hSw
        go_simp
        try with_reducible rfl
      try simp only [Act.put, List.setIfInBounds_toArray, List.set_cons_zero, List.set_cons_succ]
      refine wpAnyH_ready (rs := [3]) (by kernel_rfl) (by simp) ?_
      refine AllReadyH.cons (o := { dst := some 27, op := Go.Op.call { callee := Go.Callee.value (Go.Operand.func 22), args := #[Go.Operand.tmp 25, Go.Operand.tmp 26], argTypes := #[28, 28] }, type := 3, pos := "law.go:160", after := #[{ on := 1, ground := Go.Ground.data }, { on := 2, ground := Go.Ground.data }], guard := none }) rfl (fun K hK => ?_) AllReadyH.nil
      go_simp
      refine (CBA.out _ (HT.out.below (bstep B2 hHeld.2.2.2.2.2.2.2.2.2.2.2.2))).mono ?_
      rintro e v1 ⟨rfl, hbv1⟩
      have HBx := Lib.hid (bstep hHeld.2.2.2.2.2.2.2.2.2.2.2.2 hbv1)
      clear hHeld hbv1
      refine hK.out _ _ ?_ (fun hHeld => ?_)
      · exact keep12B ⟨a1, a2, a3, a4, b1, b2, b3, b4, c1, c2, c3, c4⟩ HBx.out
      clear hK K HBx
      try simp only [Act.put, List.setIfInBounds_toArray, List.set_cons_zero, List.set_cons_succ]
      refine wpAnyH_take (i := 4) (oi := { dst := some 28, op := Go.Op.unOp Go.UnOp.neg 3 (Go.Operand.tmp 27), type := 3, pos := "law.go:160", after := #[{ on := 3, ground := Go.Ground.data }], guard := none }) (v := ?_) rfl (by kernel_rfl) (by kernel_rfl) (by kernel_rfl) (fun _ _ _ h => h) (Or.inl ⟨by rfl, ?_⟩) (by assumption) ?_
      rotate_left
      · intro w hSw
        try dsimp only at hSw
        go_simp
        try with_reducible rfl
      try simp only [Act.put, List.setIfInBounds_toArray, List.set_cons_zero, List.set_cons_succ]
      refine wpAnyH_take (i := 5) (oi := { dst := some 29, op := Go.Op.binOp Go.BinOp.neq 3 (Go.Operand.tmp 24) (Go.Operand.tmp 28) 3, type := 4, pos := "law.go:160", after := #[{ on := 0, ground := Go.Ground.data }, { on := 4, ground := Go.Ground.data }], guard := none }) (v := ?_) rfl (by kernel_rfl) (by kernel_rfl) (by kernel_rfl) (fun _ _ _ h => h) (Or.inl ⟨by rfl, ?_⟩) (by assumption) ?_
      rotate_left
      · intro w hSw
        try dsimp only at hSw
        go_simp
        try with_reducible rfl
      try simp only [Act.put, List.setIfInBounds_toArray, List.set_cons_zero, List.set_cons_succ]
      refine wpAnyH_take (i := 6) (oi := { dst := some 30, op := Go.Op.move (Go.Operand.tmp 29), type := 4, pos := "law.go:160", after := #[{ on := 5, ground := Go.Ground.data }, { on := 3, ground := Go.Ground.chain }], guard := none }) (v := ?_) rfl (by kernel_rfl) (by kernel_rfl) (by kernel_rfl) (fun _ _ _ h => h) (Or.inl ⟨by rfl, ?_⟩) (by assumption) ?_
      rotate_left
      · intro w hSw
        try dsimp only at hSw
        go_simp
        try with_reducible rfl
      try simp only [Act.put, List.setIfInBounds_toArray, List.set_cons_zero, List.set_cons_succ]
      refine wpAnyH_take (i := 7) (oi := { dst := some 31, op := Go.Op.move (Go.Operand.tmp 10), type := 3, pos := "law.go:160", after := #[{ on := 6, ground := Go.Ground.guard }], guard := some (6, false) }) (v := ?_) rfl (by kernel_rfl) (by kernel_rfl) (by kernel_rfl) (fun _ _ _ h => h) (Or.inl ⟨by rfl, ?_⟩) (by assumption) ?_
      rotate_left
      · intro w hSw
        try dsimp only at hSw
        go_simp
        try with_reducible rfl
      try simp only [Act.put, List.setIfInBounds_toArray, List.set_cons_zero, List.set_cons_succ]
      refine wpAnyH_take (i := 8) (oi := { dst := some 32, op := Go.Op.binOp Go.BinOp.leq 3 (Go.Operand.tmp 31) (Go.Operand.const (Go.Value.int Go.IntKind.i64 0)) 3, type := 4, pos := "law.go:160", after := #[{ on := 7, ground := Go.Ground.data }, { on := 6, ground := Go.Ground.guard }], guard := some (6, false) }) (v := ?_) rfl (by kernel_rfl) (by kernel_rfl) (by kernel_rfl) (fun _ _ _ h => h) (Or.inl ⟨by rfl, ?_⟩) (by assumption) ?_
      rotate_left
      · intro w hSw
        try dsimp only at hSw
        go_simp
        try with_reducible rfl
      try simp only [Act.put, List.setIfInBounds_toArray, List.set_cons_zero, List.set_cons_succ]
      refine wpAnyH_take (i := 9) (oi := { dst := some 33, op := Go.Op.move (Go.Operand.tmp 32), type := 4, pos := "law.go:160", after := #[{ on := 8, ground := Go.Ground.data }, { on := 6, ground := Go.Ground.chain }, { on := 6, ground := Go.Ground.guard }], guard := some (6, false) }) (v := ?_) rfl (by kernel_rfl) (by kernel_rfl) (by kernel_rfl) (fun _ _ _ h => h) (Or.inl ⟨by rfl, ?_⟩) (by assumption) ?_
      rotate_left
      · intro w hSw
        try dsimp only at hSw
        go_simp
        try with_reducible rfl
      try simp only [Act.put, List.setIfInBounds_toArray, List.set_cons_zero, List.set_cons_succ]
      refine wpAnyH_take (i := 10) (oi := { dst := some 34, op := Go.Op.load 28 (Go.Operand.tmp 8), type := 28, pos := "law.go:160", after := #[{ on := 9, ground := Go.Ground.guard }], guard := some (9, true) }) (v := undef) rfl (by kernel_rfl) (by kernel_rfl) (by kernel_rfl) (fun _ _ _ h => h) (Or.inr ⟨by rfl, rfl⟩) (by assumption) ?_
      try simp only [Act.put, List.setIfInBounds_toArray, List.set_cons_zero, List.set_cons_succ]
      refine wpAnyH_take (i := 11) (oi := { dst := some 35, op := Go.Op.load 28 (Go.Operand.tmp 9), type := 28, pos := "law.go:160", after := #[{ on := 9, ground := Go.Ground.guard }], guard := some (9, true) }) (v := undef) rfl (by kernel_rfl) (by kernel_rfl) (by kernel_rfl) (fun _ _ _ h => h) (Or.inr ⟨by rfl, rfl⟩) (by assumption) ?_
      try simp only [Act.put, List.setIfInBounds_toArray, List.set_cons_zero, List.set_cons_succ]
      refine wpAnyH_take (i := 12) (oi := { dst := some 36, op := Go.Op.call { callee := Go.Callee.value (Go.Operand.func 22), args := #[Go.Operand.tmp 34, Go.Operand.tmp 35], argTypes := #[28, 28] }, type := 3, pos := "law.go:160", after := #[{ on := 10, ground := Go.Ground.data }, { on := 11, ground := Go.Ground.data }, { on := 9, ground := Go.Ground.chain }, { on := 9, ground := Go.Ground.guard }], guard := some (9, true) }) (v := undef) rfl (by kernel_rfl) (by kernel_rfl) (by kernel_rfl) (fun _ _ _ h => h) (Or.inr ⟨by rfl, rfl⟩) (by assumption) ?_
      try simp only [Act.put, List.setIfInBounds_toArray, List.set_cons_zero, List.set_cons_succ]
      refine wpAnyH_take (i := 13) (oi := { dst := some 37, op := Go.Op.binOp Go.BinOp.leq 3 (Go.Operand.tmp 36) (Go.Operand.const (Go.Value.int Go.IntKind.i64 0)) 3, type := 4, pos := "law.go:160", after := #[{ on := 12, ground := Go.Ground.data }, { on := 9, ground := Go.Ground.guard }], guard := some (9, true) }) (v := undef) rfl (by kernel_rfl) (by kernel_rfl) (by kernel_rfl) (fun _ _ _ h => h) (Or.inr ⟨by rfl, rfl⟩) (by assumption) ?_
      try simp only [Act.put, List.setIfInBounds_toArray, List.set_cons_zero, List.set_cons_succ]
      refine wpAnyH_take (i := 14) (oi := { dst := some 38, op := Go.Op.pick (Go.Operand.tmp 33) (Go.Operand.tmp 37) (Go.Operand.const (Go.Value.bool false)), type := 4, pos := "law.go:160", after := #[{ on := 9, ground := Go.Ground.data }, { on := 13, ground := Go.Ground.data }, { on := 6, ground := Go.Ground.guard }], guard := some (6, false) }) (v := ?_) rfl (by kernel_rfl) (by kernel_rfl) (by kernel_rfl) (fun _ _ _ h => h) (Or.inl ⟨by rfl, ?_⟩) (by assumption) ?_
      rotate_left
      · intro w hSw
        try dsimp only at hSw
        go_simp
        try with_reducible rfl
      try simp only [Act.put, List.setIfInBounds_toArray, List.set_cons_zero, List.set_cons_succ]
      refine wpAnyH_take (i := 15) (oi := { dst := some 39, op := Go.Op.move (Go.Operand.tmp 38), type := 4, pos := "law.go:160", after := #[{ on := 14, ground := Go.Ground.data }, { on := 12, ground := Go.Ground.chain }, { on := 6, ground := Go.Ground.guard }], guard := some (6, false) }) (v := ?_) rfl (by kernel_rfl) (by kernel_rfl) (by kernel_rfl) (fun _ _ _ h => h) (Or.inl ⟨by rfl, ?_⟩) (by assumption) ?_
      rotate_left
      · intro w hSw
        try dsimp only at hSw
        go_simp
        try with_reducible rfl
      try simp only [Act.put, List.setIfInBounds_toArray, List.set_cons_zero, List.set_cons_succ]
      refine wpAnyH_take (i := 16) (oi := { dst := some 40, op := Go.Op.load 28 (Go.Operand.tmp 7), type := 28, pos := "law.go:160", after := #[{ on := 15, ground := Go.Ground.guard }], guard := some (15, true) }) (v := undef) rfl (by kernel_rfl) (by kernel_rfl) (by kernel_rfl) (fun _ _ _ h => h) (Or.inr ⟨by rfl, rfl⟩) (by assumption) ?_
      try simp only [Act.put, List.setIfInBounds_toArray, List.set_cons_zero, List.set_cons_succ]
      refine wpAnyH_take (i := 17) (oi := { dst := some 41, op := Go.Op.load 28 (Go.Operand.tmp 9), type := 28, pos := "law.go:160", after := #[{ on := 15, ground := Go.Ground.guard }], guard := some (15, true) }) (v := undef) rfl (by kernel_rfl) (by kernel_rfl) (by kernel_rfl) (fun _ _ _ h => h) (Or.inr ⟨by rfl, rfl⟩) (by assumption) ?_
      try simp only [Act.put, List.setIfInBounds_toArray, List.set_cons_zero, List.set_cons_succ]
      refine wpAnyH_take (i := 18) (oi := { dst := some 42, op := Go.Op.call { callee := Go.Callee.value (Go.Operand.func 22), args := #[Go.Operand.tmp 40, Go.Operand.tmp 41], argTypes := #[28, 28] }, type := 3, pos := "law.go:160", after := #[{ on := 16, ground := Go.Ground.data }, { on := 17, ground := Go.Ground.data }, { on := 15, ground := Go.Ground.chain }, { on := 15, ground := Go.Ground.guard }], guard := some (15, true) }) (v := undef) rfl (by kernel_rfl) (by kernel_rfl) (by kernel_rfl) (fun _ _ _ h => h) (Or.inr ⟨by rfl, rfl⟩) (by assumption) ?_
      try simp only [Act.put, List.setIfInBounds_toArray, List.set_cons_zero, List.set_cons_succ]
      refine wpAnyH_take (i := 19) (oi := { dst := some 43, op := Go.Op.binOp Go.BinOp.gtr 3 (Go.Operand.tmp 42) (Go.Operand.const (Go.Value.int Go.IntKind.i64 0)) 3, type := 4, pos := "law.go:160", after := #[{ on := 18, ground := Go.Ground.data }, { on := 15, ground := Go.Ground.guard }], guard := some (15, true) }) (v := undef) rfl (by kernel_rfl) (by kernel_rfl) (by kernel_rfl) (fun _ _ _ h => h) (Or.inr ⟨by rfl, rfl⟩) (by assumption) ?_
      try simp only [Act.put, List.setIfInBounds_toArray, List.set_cons_zero, List.set_cons_succ]
      refine wpAnyH_take (i := 20) (oi := { dst := some 44, op := Go.Op.pick (Go.Operand.tmp 39) (Go.Operand.tmp 43) (Go.Operand.const (Go.Value.bool false)), type := 4, pos := "law.go:160", after := #[{ on := 15, ground := Go.Ground.data }, { on := 19, ground := Go.Ground.data }, { on := 6, ground := Go.Ground.guard }], guard := some (6, false) }) (v := ?_) rfl (by kernel_rfl) (by kernel_rfl) (by kernel_rfl) (fun _ _ _ h => h) (Or.inl ⟨by rfl, ?_⟩) (by assumption) ?_
      rotate_left
      · intro w hSw
        try dsimp only at hSw
        go_simp
        try with_reducible rfl
      try simp only [Act.put, List.setIfInBounds_toArray, List.set_cons_zero, List.set_cons_succ]
      refine wpAnyH_take (i := 21) (oi := { dst := some 45, op := Go.Op.pick (Go.Operand.tmp 30) (Go.Operand.const (Go.Value.bool true)) (Go.Operand.tmp 44), type := 4, pos := "law.go:160", after := #[{ on := 6, ground := Go.Ground.data }, { on := 20, ground := Go.Ground.data }], guard := none }) (v := ?_) rfl (by kernel_rfl) (by kernel_rfl) (by kernel_rfl) (fun _ _ _ h => h) (Or.inl ⟨by rfl, ?_⟩) (by assumption) ?_
      rotate_left
      · intro w hSw
        try dsimp only at hSw
        go_simp
        try with_reducible rfl
      try simp only [Act.put, List.setIfInBounds_toArray, List.set_cons_zero, List.set_cons_succ]
      refine wpAnyH_take (i := 22) (oi := { dst := some 46, op := Go.Op.move (Go.Operand.tmp 45), type := 4, pos := "law.go:160", after := #[{ on := 21, ground := Go.Ground.data }, { on := 18, ground := Go.Ground.chain }], guard := none }) (v := ?_) rfl (by kernel_rfl) (by kernel_rfl) (by kernel_rfl) (fun _ _ _ h => h) (Or.inl ⟨by rfl, ?_⟩) (by assumption) ?_
      rotate_left
      · intro w hSw
        try dsimp only at hSw
        go_simp
        try with_reducible rfl
      try simp only [Act.put, List.setIfInBounds_toArray, List.set_cons_zero, List.set_cons_succ]
      refine wpAnyH_take (i := 23) (oi := { dst := some 47, op := Go.Op.load 28 (Go.Operand.tmp 7), type := 28, pos := "law.go:160", after := #[{ on := 22, ground := Go.Ground.guard }], guard := some (22, false) }) (v := ?_) rfl (by kernel_rfl) (by kernel_rfl) (by kernel_rfl) (fun _ _ _ h => h) (Or.inl ⟨by rfl, ?_⟩) (by assumption) ?_
      rotate_left
      · intro w hSw
        try dsimp only at hSw
        go_simp
        try with_reducible rfl
      try simp only [Act.put, List.setIfInBounds_toArray, List.set_cons_zero, List.set_cons_succ]
      refine wpAnyH_take (i := 25) (oi := { dst := some 49, op := Go.Op.load 28 (Go.Operand.tmp 8), type := 28, pos := "law.go:160", after := #[{ on := 22, ground := Go.Ground.guard }], guard := some (22, false) }) (v := ?_) rfl (by kernel_rfl) (by kernel_rfl) (by kernel_rfl) (fun _ _ _ h => h) (Or.inl ⟨by rfl, ?_⟩) (by assumption) ?_
      rotate_left
      · intro w hSw
        try dsimp only at hSw
        go_simp
        try with_reducible rfl
      try simp only [Act.put, List.setIfInBounds_toArray, List.set_cons_zero, List.set_cons_succ]
      refine wpAnyH_take (i := 28) (oi := { dst := some 52, op := Go.Op.move (Go.Operand.tmp 10), type := 3, pos := "law.go:160", after := #[{ on := 22, ground := Go.Ground.guard }], guard := some (22, false) }) (v := ?_) rfl (by kernel_rfl) (by kernel_rfl) (by kernel_rfl) (fun _ _ _ h => h) (Or.inl ⟨by rfl, ?_⟩) (by assumption) ?_
      rotate_left
      · intro w hSw
        try dsimp only at hSw
        go_simp
        try with_reducible rfl
      try simp only [Act.put, List.setIfInBounds_toArray, List.set_cons_zero, List.set_cons_succ]
      refine wpAnyH_take (i := 29) (oi := { dst := some 53, op := Go.Op.unOp Go.UnOp.neg 3 (Go.Operand.tmp 52), type := 3, pos := "law.go:160", after := #[{ on := 28, ground := Go.Ground.data }, { on := 22, ground := Go.Ground.guard }], guard := some (22, false) }) (v := ?_) rfl (by kernel_rfl) (by kernel_rfl) (by kernel_rfl) (fun _ _ _ h => h) (Or.inl ⟨by rfl, ?_⟩) (by assumption) ?_
      rotate_left
      · intro w hSw
        try dsimp only at hSw
        go_simp
        try with_reducible rfl
      try simp only [Act.put, List.setIfInBounds_toArray, List.set_cons_zero, List.set_cons_succ]
      refine wpAnyH_ready (rs := [24]) (by kernel_rfl) (by simp) ?_
      refine AllReadyH.cons (o := { dst := some 48, op := Go.Op.call { callee := Go.Callee.value (Go.Operand.func 19), args := #[Go.Operand.tmp 47], argTypes := #[28] }, type := 28, pos := "law.go:160", after := #[{ on := 23, ground := Go.Ground.data }, { on := 22, ground := Go.Ground.chain }, { on := 22, ground := Go.Ground.guard }], guard := some (22, false) }) rfl (fun K hK => ?_) AllReadyH.nil
      go_simp
      refine (NA.out _).mono ?_
      rintro e v3 ⟨nv3, hv3, lv3, xv3, ⟨rfl, rfl, rfl, rfl⟩, rfl, hbv3⟩
      have HBx := Lib.hid (bstep hHeld.2.2.2.2.2.2.2.2.2.2.2.2 hbv3)
      clear hHeld hbv3
      refine hK.out _ _ ?_ (fun hHeld => ?_)
      · exact keep12B ⟨a1, a2, a3, a4, b1, b2, b3, b4, c1, c2, c3, c4⟩ HBx.out
      clear hK K HBx
      try simp only [Act.put, List.setIfInBounds_toArray, List.set_cons_zero, List.set_cons_succ]
      refine wpAnyH_ready (rs := [26]) (by kernel_rfl) (by simp) ?_
      refine AllReadyH.cons (o := { dst := some 50, op := Go.Op.call { callee := Go.Callee.value (Go.Operand.func 19), args := #[Go.Operand.tmp 49], argTypes := #[28] }, type := 28, pos := "law.go:160", after := #[{ on := 25, ground := Go.Ground.data }, { on := 24, ground := Go.Ground.chain }, { on := 22, ground := Go.Ground.guard }], guard := some (22, false) }) rfl (fun K hK => ?_) AllReadyH.nil
      go_simp
      refine (NB.out _).mono ?_
      rintro e v4 ⟨nv4, hv4, lv4, xv4, ⟨rfl, rfl, rfl, rfl⟩, rfl, hbv4⟩
      have HBx := Lib.hid (bstep hHeld.2.2.2.2.2.2.2.2.2.2.2.2 hbv4)
      clear hHeld hbv4
      refine hK.out _ _ ?_ (fun hHeld => ?_)
      · exact keep12B ⟨a1, a2, a3, a4, b1, b2, b3, b4, c1, c2, c3, c4⟩ HBx.out
      clear hK K HBx
      try simp only [Act.put, List.setIfInBounds_toArray, List.set_cons_zero, List.set_cons_succ]
      refine wpAnyH_ready (rs := [27]) (by kernel_rfl) (by simp) ?_
      refine AllReadyH.cons (o := { dst := some 51, op := Go.Op.call { callee := Go.Callee.value (Go.Operand.func 22), args := #[Go.Operand.tmp 48, Go.Operand.tmp 50], argTypes := #[28, 28] }, type := 3, pos := "law.go:160", after := #[{ on := 24, ground := Go.Ground.data }, { on := 26, ground := Go.Ground.data }, { on := 26, ground := Go.Ground.chain }, { on := 22, ground := Go.Ground.guard }], guard := some (22, false) }) rfl (fun K hK => ?_) AllReadyH.nil
      go_simp
      refine (CNN.out _ (HT.out.below (bstep B2 hHeld.2.2.2.2.2.2.2.2.2.2.2.2))).mono ?_
      rintro e v5 ⟨rfl, hbv5⟩
      have HBx := Lib.hid (bstep hHeld.2.2.2.2.2.2.2.2.2.2.2.2 hbv5)
      clear hHeld hbv5
      refine hK.out _ _ ?_ (fun hHeld => ?_)
      · exact keep12B ⟨a1, a2, a3, a4, b1, b2, b3, b4, c1, c2, c3, c4⟩ HBx.out
      clear hK K HBx
      try simp only [Act.put, List.setIfInBounds_toArray, List.set_cons_zero, List.set_cons_succ]
      refine wpAnyH_take (i := 30) (oi := { dst := some 54, op := Go.Op.binOp Go.BinOp.neq 3 (Go.Operand.tmp 51) (Go.Operand.tmp 53) 3, type := 4, pos := "law.go:160", after := #[{ on := 27, ground := Go.Ground.data }, { on := 29, ground := Go.Ground.data }, { on := 22, ground := Go.Ground.guard }], guard := some (22, false) }) (v := ?_) rfl (by kernel_rfl) (by kernel_rfl) (by kernel_rfl) (fun _ _ _ h => h) (Or.inl ⟨by rfl, ?_⟩) (by assumption) ?_
      rotate_left
      · intro w hSw
        try dsimp only at hSw
        go_simp
        try with_reducible rfl
      try simp only [Act.put, List.setIfInBounds_toArray, List.set_cons_zero, List.set_cons_succ]
      refine wpAnyH_take (i := 31) (oi := { dst := some 55, op := Go.Op.pick (Go.Operand.tmp 46) (Go.Operand.const (Go.Value.bool true)) (Go.Operand.tmp 54), type := 4, pos := "law.go:160", after := #[{ on := 22, ground := Go.Ground.data }, { on := 30, ground := Go.Ground.data }], guard := none }) (v := ?_) rfl (by kernel_rfl) (by kernel_rfl) (by kernel_rfl) (fun _ _ _ h => h) (Or.inl ⟨by rfl, ?_⟩) (by assumption) ?_
      rotate_left
      · intro w hSw
        try dsimp only at hSw
        go_simp
        try with_reducible rfl
      try simp only [Act.put, List.setIfInBounds_toArray, List.set_cons_zero, List.set_cons_succ]
      refine wpAnyH_done (by kernel_rfl) ?_ _
      go_wp2
      go_meet
      case rel => exact ⟨rfl, hHeld.2.2.2.2.2.2.2.2.2.2.2.2⟩
      -- </case1>
  case rest =>
  obtain ⟨rfl, hb⟩ := hcut
  replace P7 := Lib.hid (P7.out.below hb)
  replace P8 := Lib.hid (P8.out.below hb)
  replace B2 := bstep B2 hb
  clear hb a1 a2 a3 a4 a9 b1 b2 b3 b4 b9 c1 c2 c3 c4 c9 P9 CBA CBC CAC CNN NA NB e1 e2 e3 k1 k2 HKK
  go_upto_region 7 with fail
  generalize wc = V2 at *
  have AB := Lib.hid (abs_any nb bh bl eb)
  have AA := Lib.hid (ADH.out na ah al ea false bh bl eb HN1.out.1 HN2.out.1 HN1.out.2.1 HN2.out.2.1)
  obtain ⟨o, ho⟩ : ∃ o, o = addF na (nv ah al) ea false (nv bh bl) eb := ⟨_, rfl⟩
  rw [← ho] at AA
  have HO := Lib.hid ho
  clear ho ADH
  obtain ⟨⟨a1, a2, a3, a4⟩, -, a9⟩ := P7.out
  obtain ⟨⟨b1, b2, b3, b4⟩, -, b9⟩ := P8.out
  have z0 : g < V2.heap.size + 1 := by omega
  have z1 : k < V2.heap.size + 1 := by omega
  go_cut [11, 12] (fun p q W => ∃ (g11 : Nat) (ns : Bool) (hs ls : Nat) (xs : Int) (ks : Bool), p = .pointer (some ⟨g11, 0, none⟩) ∧ q = .bool ks ∧ NumO o ns hs ls xs ks ∧ HoldsD W g11 ns hs ls xs ∧ Below V2.heap.size V2 W)
  case first =>
    go_region_held3 (fun w' => w'.cell? ⟨g, 0, none⟩ = some (.bool na) ∧ w'.cell? ⟨g, 1, none⟩ = some (.int .u64 (ah : Int)) ∧ w'.cell? ⟨g, 2, none⟩ = some (.int .u64 (al : Int)) ∧ w'.cell? ⟨g, 3, none⟩ = some (.int .i64 ea) ∧ w'.cell? ⟨k, 0, none⟩ = some (.bool nb) ∧ w'.cell? ⟨k, 1, none⟩ = some (.int .u64 (bh : Int)) ∧ w'.cell? ⟨k, 2, none⟩ = some (.int .u64 (bl : Int)) ∧ w'.cell? ⟨k, 3, none⟩ = some (.int .i64 eb))
      (repeat' (first | (with_reducible assumption) | (with_reducible refine keep44a ?_) | (with_reducible refine keep44d ?_) | (with_reducible refine keep44s ?_ ?_ ?_) | (with_reducible exact ⟨a1, a2, a3, a4, b1, b2, b3, b4⟩) | (with_reducible refine keep44 (by with_reducible assumption) ?_) | (show _ ≠ _; (try dsimp only); omega)))
      (first
        | (go_at_call 21; (with_reducible refine (AB.out _).mono ?_); rintro e wN ⟨nN, hN, lN, xN, ⟨rfl, rfl, rfl, rfl⟩, rfl, hbN⟩; obtain ⟨hcN, hfN⟩ := bcell hbN; have szN := hbN.size; (try simp only [World.size_alloc, World.size_drew] at szN); (try (have : V2.heap.size < wN.heap.size := (by omega))))
        | (go_at_call 24; (with_reducible refine (AA.out _ ?_).mono ?_); (exact HT.out.below (by repeat' (first | (with_reducible exact B2) | (with_reducible refine Below.drew ?_) | (with_reducible refine ballD1 ?_ _) | (with_reducible refine bstep ?_ (by with_reducible assumption))))); rintro e wA ⟨nA, hA, lA, xA, kA, NA, rfl, hbA⟩; have NAH := Lib.hid NA; clear NA; obtain ⟨hcA, hfA⟩ := bcell hbA; have szA := hbA.size; (try simp only [World.size_alloc] at szA); (try (have : V2.heap.size < wA.heap.size := (by omega))); (try (have : wN.heap.size < wA.heap.size := (by omega)))))
    all_goals
      go_wp2
      go_meet
      case rel =>
        refine ⟨_, nA, hA, lA, xA, kA, rfl, rfl, NAH.out, ?_, ?_⟩
        · clear a1 a2 a3 a4 b1 b2 b3 b4 hcN hfN hcA hfA
          repeat' (first | (with_reducible refine HoldsD.put4 (a := false) (b := 0) (c := 0) (d := 0) ?_) | (with_reducible refine HoldsD.far ?_ ?_ _) | ((with_reducible refine HoldsD.new4 ?_); (first | rfl | (simp; done))) | ((with_reducible refine HoldsD.zero4 ?_); (first | rfl | (simp; done))) | (with_reducible refine HoldsD.alloc ?_ _) | (with_reducible refine HoldsD.drew2 ?_) | (with_reducible refine HoldsD.below ?_ (by with_reducible assumption)) | (show _ ≠ _; (try dsimp only); omega))
        · clear a1 a2 a3 a4 b1 b2 b3 b4 hcN hfN hcA hfA
          repeat' (first | (with_reducible exact Below.refl _ _) | (with_reducible refine Below.drew ?_) | (with_reducible refine ballD1 ?_ _) | (with_reducible refine Below.set1' ?_ _ _ ?_ _) | (with_reducible refine bstep ?_ (by with_reducible assumption)) | omega)
  case rest =>
  obtain ⟨g11, ns, hs, ls, xs, ks, rfl, rfl, NS, P11, hb⟩ := hcut
  replace P7 := Lib.hid (P7.out.below hb)
  replace P11 := Lib.hid P11
  replace B2 := bstep B2 hb
  have HNS := Lib.hid NS
  clear hb NS a1 a2 a3 a4 a9 b1 b2 b3 b4 b9 z0 z1 P8 AA AB
  generalize wc = V3 at *
  rcases o with _ | ⟨os, oc, oe⟩
  · obtain ⟨-, rfl, -⟩ := HNS.out
    clear HNS HO CMC HN1 HN2 P7 P11
    go_wp2
    go_ret
    exact ⟨rfl, B2⟩
  · obtain ⟨us, rfl, rfl, qs, rfl⟩ := HNS.out
    subst qs
    obtain ⟨-, dS, -⟩ := fitF_may HO.out.symm (sumF_bound HN1.out.2.1.1 HN2.out.2.1.1)
    have UP := addF_above HN1.out.2.1 HN2.out.2.1 HO.out.symm
    have CC := Lib.hid (CMC.out ns hs ls xs na ah al ea us HN1.out.1 dS HN1.out.2.1)
    obtain ⟨cc, hcc⟩ : ∃ c, c = cmpZ (vlZ ns (nv hs ls) xs) (vlZ na (nv ah al) ea) := ⟨_, rfl⟩
    rw [← hcc] at CC
    have t0 : decide (0 ≤ cc) = true := by rw [hcc]; exact decide_eq_true (cmpZ_ge.2 UP)
    clear hcc UP dS us HNS HO CMC HN1 HN2
    obtain ⟨⟨a1, a2, a3, a4⟩, -, a9⟩ := P7.out
    obtain ⟨⟨b1, b2, b3, b4⟩, -, b9⟩ := P11.out
    go_wp2_with fail
    refine (CC.out _ (HT.out.below B2)).mono ?_
    rintro e V4 ⟨rfl, hb⟩
    replace B2 := bstep B2 hb
    clear hb a1 a2 a3 a4 a9 b1 b2 b3 b4 b9 P7 P11 CC
    go_wp2
    go_ret
    exact ⟨rfl, B2⟩
end Go.Proofs.YteboohejlkionaaDoor
