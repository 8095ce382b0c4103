/-
  Sums and differences of sizes of one exponent (together, apart of package dec), each as a contract of its call.
-/
import Derived.Test.YtncpdoeikebomaaDoorE6
namespace Go.Proofs.YtncpdoeikebomaaDoor
open Go.RowKit

theorem nv2_lt {h l h' l' : Nat} (h1 : WW h l) (h2 : WW h' l') : nv2 h l h' l' < B128 * B128 := by
  have a := nv_lt h1
  have b := nv_lt h2
  unfold nv2
  have := Nat.mul_le_mul_right B128 (Nat.succ_le_of_lt a)
  rw [Nat.succ_mul] at this
  omega
theorem sum_two {ah al bh bl ch cl dh dl h l h' l' c : Nat} (s : Sum2F ah al bh bl ch cl dh dl h l h' l' c) (hq : nv2 ah al bh bl + nv2 ch cl dh dl < B128 * B128) : nv2 h l h' l' = nv2 ah al bh bl + nv2 ch cl dh dl := by
  obtain ⟨_, _, _, e⟩ := s
  unfold nv2 at hq ⊢
  exact over_none _ _ c _ e hq
theorem sub_two {ah al bh bl ch cl dh dl h l h' l' c : Nat} (s : Sub2F ah al bh bl ch cl dh dl h l h' l' c) (hq : nv2 ch cl dh dl ≤ nv2 ah al bh bl) : nv2 h l h' l' = nv2 ah al bh bl - nv2 ch cl dh dl := by
  obtain ⟨w1, w2, c1, e⟩ := s
  have lt := nv2_lt w1 w2
  unfold nv2 at hq lt ⊢
  generalize B128 * B128 = M at *
  generalize nv h l * B128 + nv h' l' = R at *
  generalize nv ah al * B128 + nv bh bl = A at *
  generalize nv ch cl * B128 + nv dh dl = B at *
  have : c = 0 ∨ c = 1 := by omega
  rcases this with rfl | rfl <;> omega

theorem ret_via {P : Program} {fn : Func} {R : Ending → World → Prop} {a : Act} {w : World} {v : Value} (Q : World → Prop) (hv : ∀ VF, Q VF → (results fn a.tmps).run P VF = .ok v VF) (hq : Q w) (hd : a.defers = []) (hR : R (.returned v) w) : bodyPost P fn R .ret a w := bodyPost_ret (hv _ hq) hd hR

theorem HoldsW.putN {W : World} {g : Nat} {neg more : Bool} {h l h' l' : Nat} {e : Int} (H : HoldsW W g neg h l h' l' e more) (a b c d : Nat) :
    HoldsW ((((W.setCell ⟨g, 1, none⟩ (.int .u64 (a : Int))).setCell ⟨g, 2, none⟩ (.int .u64 (b : Int))).setCell ⟨g, 3, none⟩ (.int .u64 (c : Int))).setCell ⟨g, 4, none⟩ (.int .u64 (d : Int))) g neg a b c d e more := by
  obtain ⟨⟨a1, a2, a3, a4, a5, a6, a7⟩, ⟨a8, a9, a10, a11, a12, a13, a14⟩, s⟩ := H
  simp [HoldsW, go_sem, *]
theorem HoldsW.putM {W : World} {g : Nat} {neg more : Bool} {h l h' l' : Nat} {e : Int} (H : HoldsW W g neg h l h' l' e more) (m : Bool) : HoldsW (W.setCell ⟨g, 6, none⟩ (.bool m)) g neg h l h' l' e m := by
  obtain ⟨⟨a1, a2, a3, a4, a5, a6, a7⟩, ⟨a8, a9, a10, a11, a12, a13, a14⟩, s⟩ := H
  simp [HoldsW, go_sem, *]
theorem HoldsW.putAll {W : World} {g : Nat} {neg more : Bool} {h l h' l' : Nat} {e : Int} (H : HoldsW W g neg h l h' l' e more) (n : Bool) (a b c d : Nat) (x : Int) (m : Bool) :
    HoldsW (((((((W.setCell ⟨g, 0, none⟩ (.bool n)).setCell ⟨g, 1, none⟩ (.int .u64 (a : Int))).setCell ⟨g, 2, none⟩ (.int .u64 (b : Int))).setCell ⟨g, 3, none⟩ (.int .u64 (c : Int))).setCell ⟨g, 4, none⟩ (.int .u64 (d : Int))).setCell ⟨g, 5, none⟩ (.int .i64 x)).setCell ⟨g, 6, none⟩ (.bool m)) g n a b c d x m := by
  obtain ⟨⟨a1, a2, a3, a4, a5, a6, a7⟩, ⟨a8, a9, a10, a11, a12, a13, a14⟩, s⟩ := H
  simp [HoldsW, go_sem, *]
theorem Below.set7 {w W : World} (B : Below w.heap.size w W) (g : Nat) (hg : w.heap.size ≤ g) (v0 v1 v2 v3 v4 v5 v6 : Value) :
    Below w.heap.size w (((((((W.setCell ⟨g, 0, none⟩ v0).setCell ⟨g, 1, none⟩ v1).setCell ⟨g, 2, none⟩ v2).setCell ⟨g, 3, none⟩ v3).setCell ⟨g, 4, none⟩ v4).setCell ⟨g, 5, none⟩ v5).setCell ⟨g, 6, none⟩ v6) :=
  Below.setCell (Below.setCell (Below.setCell (Below.setCell (Below.setCell (Below.setCell (Below.setCell B hg _) hg _) hg _) hg _) hg _) hg _) hg _
theorem Below.set4 {w W : World} (B : Below w.heap.size w W) (g i j k l : Nat) (hg : w.heap.size ≤ g) (v0 v1 v2 v3 : Value) :
    Below w.heap.size w ((((W.setCell ⟨g, i, none⟩ v0).setCell ⟨g, j, none⟩ v1).setCell ⟨g, k, none⟩ v2).setCell ⟨g, l, none⟩ v3) :=
  Below.setCell (Below.setCell (Below.setCell (Below.setCell B hg _) hg _) hg _) hg _
theorem Below.set1 {w W : World} (B : Below w.heap.size w W) (g i : Nat) (hg : w.heap.size ≤ g) (v : Value) : Below w.heap.size w (W.setCell ⟨g, i, none⟩ v) := Below.setCell B hg _
theorem HoldsW.far4 {W : World} {q : Nat} {neg more : Bool} {h l h' l' : Nat} {e : Int} (H : HoldsW W q neg h l h' l' e more) (g i j k m : Nat) (hg : q ≠ g) (v0 v1 v2 v3 : Value) :
    HoldsW ((((W.setCell ⟨g, i, none⟩ v0).setCell ⟨g, j, none⟩ v1).setCell ⟨g, k, none⟩ v2).setCell ⟨g, m, none⟩ v3) q neg h l h' l' e more :=
  HoldsW.far (HoldsW.far (HoldsW.far (HoldsW.far H hg _) hg _) hg _) hg _

set_option maxRecDepth 100000 in
set_option maxHeartbeats 4000000 in
theorem together_any (na : Bool) (ah al bh bl : Nat) (x : Int) (ma : Bool) (nb : Bool) (ch cl dh dl : Nat) (x' : Int) (mb : Bool) (h1 : WW ah al) (h2 : WW bh bl) (h3 : WW ch cl) (h4 : WW dh dl) (hq : nv2 ah al bh bl + nv2 ch cl dh dl < B128 * B128) (w : World) :
    Calls Tryd.prog 89 #[Wv na ah al bh bl x ma, Wv nb ch cl dh dl x' mb] w
      (RetW (fun neg h l h' l' y more => neg = na ∧ WW h l ∧ WW h' l' ∧ nv2 h l h' l' = nv2 ah al bh bl + nv2 ch cl dh dl ∧ y = x ∧ more = mb) w) := by
  have AD := Lib.hid (add2_any ah al bh bl ch cl dh dl h1 h2 h3 h4)
  have HQ := Lib.hid hq
  clear h1 h2 h3 h4 hq
  go_enter Tryd.func89, Tryd.ntmps89
  go_wp2_with fail
  refine (AD.out _).mono ?_
  rintro e w1 ⟨h, l, h', l', c, S, rfl, hb1⟩
  have SS := Lib.hid (And.intro (And.intro S.1 S.2.1) (sum_two S HQ.out))
  have B1 : Below w.heap.size w w1 := bstep (by go_grown) hb1
  have D0 := Lib.hid ((show HoldsW _ w.heap.size na ah al bh bl x ma from by simp [HoldsW, go_sem]).below hb1)
  have D1 := Lib.hid ((show HoldsW _ (w.heap.size + 1) nb ch cl dh dl x' mb from by simp [HoldsW, go_sem]).below hb1)
  have D2 := Lib.hid ((show HoldsW _ (w.heap.size + 1 + 1) false 0 0 0 0 0 false from by simp [HoldsW, go_sem]).below hb1)
  clear S hb1 AD
  obtain ⟨⟨_, a2, a3, a4, a5, _, _⟩, ⟨_, a9, a10, a11, a12, _, _⟩, a15⟩ := D0.out
  go_upto_region 2 with fail
  clear a2 a3 a4 a5 a9 a10 a11 a12 a15
  replace B1 := Below.set4 B1 w.heap.size 1 2 3 4 (Nat.le_refl _) (.int .u64 (h : Int)) (.int .u64 (l : Int)) (.int .u64 (h' : Int)) (.int .u64 (l' : Int))
  replace D0 := Lib.hid (D0.out.putN h l h' l')
  replace D1 := Lib.hid (D1.out.far4 w.heap.size 1 2 3 4 (by omega) (.int .u64 (h : Int)) (.int .u64 (l : Int)) (.int .u64 (h' : Int)) (.int .u64 (l' : Int)))
  replace D2 := Lib.hid (D2.out.far4 w.heap.size 1 2 3 4 (by omega) (.int .u64 (h : Int)) (.int .u64 (l : Int)) (.int .u64 (h' : Int)) (.int .u64 (l' : Int)))
  generalize (((w1.setCell ⟨w.heap.size, 1, none⟩ (.int .u64 (h : Int))).setCell ⟨w.heap.size, 2, none⟩ (.int .u64 (l : Int))).setCell ⟨w.heap.size, 3, none⟩ (.int .u64 (h' : Int))).setCell ⟨w.heap.size, 4, none⟩ (.int .u64 (l' : Int)) = V1 at *
  obtain ⟨⟨a1, a2, a3, a4, a5, a6, a7⟩, ⟨_, _, _, _, _, _, a14⟩, a15⟩ := D0.out
  obtain ⟨⟨_, _, _, _, _, _, b7⟩, _, b15⟩ := D1.out
  go_upto_region 3 with fail
  replace B1 := Below.set1 B1 w.heap.size 6 (Nat.le_refl _) (.bool mb)
  replace D0 := Lib.hid (D0.out.putM mb)
  replace D2 := Lib.hid (D2.out.far (p := ⟨w.heap.size, 6, none⟩) (by show _ ≠ _; dsimp only; omega) (.bool mb))
  clear a1 a2 a3 a4 a5 a6 a7 a14 a15 b7 b15 D1
  generalize V1.setCell ⟨w.heap.size, 6, none⟩ (.bool mb) = V2 at *
  obtain ⟨⟨a1, a2, a3, a4, a5, a6, a7⟩, _, a15⟩ := D0.out
  obtain ⟨⟨c1, c2, c3, c4, c5, c6, c7⟩, ⟨c8, c9, c10, c11, c12, c13, c14⟩, c15⟩ := D2.out
  go_wp2
  refine ret_via (fun VF => HoldsW VF (w.heap.size + 1 + 1) na h l h' l' x mb) (v := Wv na h l h' l' x mb) (by rintro VF ⟨⟨e1, e2, e3, e4, e5, e6, e7⟩, _, _⟩; simp [results, Tryd.results89, go_sem, e1, e2, e3, e4, e5, e6, e7]) (D2.out.putAll _ _ _ _ _ _ _) rfl ⟨_, _, _, _, _, _, _, ⟨rfl, SS.out.1.1, SS.out.1.2, SS.out.2, rfl, rfl⟩, rfl, Below.set7 B1 _ (by omega) _ _ _ _ _ _ _⟩

set_option maxRecDepth 100000 in
set_option maxHeartbeats 4000000 in
theorem apart_no (na : Bool) (ah al bh bl : Nat) (x : Int) (ma : Bool) (nb : Bool) (ch cl dh dl : Nat) (x' : Int) (h1 : WW ah al) (h2 : WW bh bl) (h3 : WW ch cl) (h4 : WW dh dl) (hq : nv2 ch cl dh dl ≤ nv2 ah al bh bl) (w : World) :
    Calls Tryd.prog 91 #[Wv na ah al bh bl x ma, Wv nb ch cl dh dl x' false] w
      (RetW (fun neg h l h' l' y more => neg = na ∧ WW h l ∧ WW h' l' ∧ nv2 h l h' l' = nv2 ah al bh bl - nv2 ch cl dh dl ∧ y = x ∧ more = false) w) := by
  have SB := Lib.hid (sub2_any ah al bh bl ch cl dh dl h1 h2 h3 h4)
  have HQ := Lib.hid hq
  clear h1 h2 h3 h4 hq
  go_enter Tryd.func91, Tryd.ntmps91
  go_wp2_with fail
  refine (SB.out _).mono ?_
  rintro e w1 ⟨h, l, h', l', c, S, rfl, hb1⟩
  have SS := Lib.hid (And.intro (And.intro S.1 S.2.1) (sub_two S HQ.out))
  have B1 : Below w.heap.size w w1 := bstep (by go_grown) hb1
  have D0 := Lib.hid ((show HoldsW _ w.heap.size na ah al bh bl x ma from by simp [HoldsW, go_sem]).below hb1)
  have D1 := Lib.hid ((show HoldsW _ (w.heap.size + 1) nb ch cl dh dl x' false from by simp [HoldsW, go_sem]).below hb1)
  have D2 := Lib.hid ((show HoldsW _ (w.heap.size + 1 + 1) false 0 0 0 0 0 false from by simp [HoldsW, go_sem]).below hb1)
  clear S hb1 SB
  obtain ⟨⟨_, a2, a3, a4, a5, _, _⟩, ⟨_, a9, a10, a11, a12, _, _⟩, a15⟩ := D0.out
  go_upto_region 2 with fail
  clear a2 a3 a4 a5 a9 a10 a11 a12 a15
  replace B1 := Below.set4 B1 w.heap.size 1 2 3 4 (Nat.le_refl _) (.int .u64 (h : Int)) (.int .u64 (l : Int)) (.int .u64 (h' : Int)) (.int .u64 (l' : Int))
  replace D0 := Lib.hid (D0.out.putN h l h' l')
  replace D1 := Lib.hid (D1.out.far4 w.heap.size 1 2 3 4 (by omega) (.int .u64 (h : Int)) (.int .u64 (l : Int)) (.int .u64 (h' : Int)) (.int .u64 (l' : Int)))
  replace D2 := Lib.hid (D2.out.far4 w.heap.size 1 2 3 4 (by omega) (.int .u64 (h : Int)) (.int .u64 (l : Int)) (.int .u64 (h' : Int)) (.int .u64 (l' : Int)))
  generalize (((w1.setCell ⟨w.heap.size, 1, none⟩ (.int .u64 (h : Int))).setCell ⟨w.heap.size, 2, none⟩ (.int .u64 (l : Int))).setCell ⟨w.heap.size, 3, none⟩ (.int .u64 (h' : Int))).setCell ⟨w.heap.size, 4, none⟩ (.int .u64 (l' : Int)) = V1 at *
  obtain ⟨⟨a1, a2, a3, a4, a5, a6, a7⟩, ⟨_, _, _, _, _, _, a14⟩, a15⟩ := D0.out
  obtain ⟨⟨_, _, _, _, _, _, b7⟩, _, b15⟩ := D1.out
  go_upto_region 5 with fail
  replace B1 := Below.set1 B1 w.heap.size 6 (Nat.le_refl _) (.bool false)
  replace D0 := Lib.hid (D0.out.putM false)
  replace D2 := Lib.hid (D2.out.far (p := ⟨w.heap.size, 6, none⟩) (by show _ ≠ _; dsimp only; omega) (.bool false))
  clear a1 a2 a3 a4 a5 a6 a7 a14 a15 b7 b15 D1
  generalize V1.setCell ⟨w.heap.size, 6, none⟩ (.bool false) = V2 at *
  obtain ⟨⟨a1, a2, a3, a4, a5, a6, a7⟩, _, a15⟩ := D0.out
  obtain ⟨⟨c1, c2, c3, c4, c5, c6, c7⟩, ⟨c8, c9, c10, c11, c12, c13, c14⟩, c15⟩ := D2.out
  go_wp2
  refine ret_via (fun VF => HoldsW VF (w.heap.size + 1 + 1) na h l h' l' x false) (v := Wv na h l h' l' x false) (by rintro VF ⟨⟨e1, e2, e3, e4, e5, e6, e7⟩, _, _⟩; simp [results, Tryd.results91, go_sem, e1, e2, e3, e4, e5, e6, e7]) (D2.out.putAll _ _ _ _ _ _ _) rfl ⟨_, _, _, _, _, _, _, ⟨rfl, SS.out.1.1, SS.out.1.2, SS.out.2, rfl, rfl⟩, rfl, Below.set7 B1 _ (by omega) _ _ _ _ _ _ _⟩
set_option maxRecDepth 100000 in
set_option maxHeartbeats 4000000 in
theorem apart_yes (na : Bool) (ah al bh bl : Nat) (x : Int) (ma : Bool) (nb : Bool) (ch cl dh dl : Nat) (x' : Int) (h1 : WW ah al) (h2 : WW bh bl) (h3 : WW ch cl) (h4 : WW dh dl) (hq : nv2 ch cl dh dl + 1 ≤ nv2 ah al bh bl) (w : World) :
    Calls Tryd.prog 91 #[Wv na ah al bh bl x ma, Wv nb ch cl dh dl x' true] w
      (RetW (fun neg h l h' l' y more => neg = na ∧ WW h l ∧ WW h' l' ∧ nv2 h l h' l' = nv2 ah al bh bl - nv2 ch cl dh dl - 1 ∧ y = x ∧ more = true) w) := by
  have AD := Lib.hid (sub2_any ah al bh bl ch cl dh dl h1 h2 h3 h4)
  have HQ := Lib.hid hq
  clear h1 h2 h3 h4 hq
  go_enter Tryd.func91, Tryd.ntmps91
  go_wp2_with fail
  refine (AD.out _).mono ?_
  rintro e w1 ⟨h, l, h', l', c, S, rfl, hb1⟩
  have SS := Lib.hid (And.intro (And.intro S.1 S.2.1) (sub_two S (Nat.le_trans (Nat.le_add_right _ 1) HQ.out)))
  have SE := Lib.hid (sub2_any h l h' l' 0 0 0 1 SS.out.1.1 SS.out.1.2 ww0 ⟨by decide, by decide⟩)
  have HV := Lib.hid (show nv2 0 0 0 1 ≤ nv2 h l h' l' ∧ nv2 0 0 0 1 = 1 from by
    have q := HQ.out
    rw [SS.out.2, nv2_low, show nv 0 1 = 1 by decide]
    omega)
  have B1 : Below w.heap.size w w1 := bstep (by go_grown) hb1
  have D0 := Lib.hid ((show HoldsW _ w.heap.size na ah al bh bl x ma from by simp [HoldsW, go_sem]).below hb1)
  have D1 := Lib.hid ((show HoldsW _ (w.heap.size + 1) nb ch cl dh dl x' true from by simp [HoldsW, go_sem]).below hb1)
  have D2 := Lib.hid ((show HoldsW _ (w.heap.size + 1 + 1) false 0 0 0 0 0 false from by simp [HoldsW, go_sem]).below hb1)
  clear S hb1 AD
  obtain ⟨⟨_, a2, a3, a4, a5, _, _⟩, ⟨_, a9, a10, a11, a12, _, _⟩, a15⟩ := D0.out
  go_upto_region 2 with fail
  clear a2 a3 a4 a5 a9 a10 a11 a12 a15
  replace B1 := Below.set4 B1 w.heap.size 1 2 3 4 (Nat.le_refl _) (.int .u64 (h : Int)) (.int .u64 (l : Int)) (.int .u64 (h' : Int)) (.int .u64 (l' : Int))
  replace D0 := Lib.hid (D0.out.putN h l h' l')
  replace D1 := Lib.hid (D1.out.far4 w.heap.size 1 2 3 4 (by omega) (.int .u64 (h : Int)) (.int .u64 (l : Int)) (.int .u64 (h' : Int)) (.int .u64 (l' : Int)))
  replace D2 := Lib.hid (D2.out.far4 w.heap.size 1 2 3 4 (by omega) (.int .u64 (h : Int)) (.int .u64 (l : Int)) (.int .u64 (h' : Int)) (.int .u64 (l' : Int)))
  generalize (((w1.setCell ⟨w.heap.size, 1, none⟩ (.int .u64 (h : Int))).setCell ⟨w.heap.size, 2, none⟩ (.int .u64 (l : Int))).setCell ⟨w.heap.size, 3, none⟩ (.int .u64 (h' : Int))).setCell ⟨w.heap.size, 4, none⟩ (.int .u64 (l' : Int)) = V1 at *
  obtain ⟨⟨a1, a2, a3, a4, a5, a6, a7⟩, ⟨_, _, _, _, _, _, a14⟩, a15⟩ := D0.out
  obtain ⟨⟨_, _, _, _, _, _, b7⟩, _, b15⟩ := D1.out
  obtain ⟨_, ⟨_, a9, a10, a11, a12, _, _⟩, _⟩ := D0.out
  go_upto_region 3 with fail
  go_cut [2] (fun p W => ∃ ih il jh jl : Nat, p = .pointer (some ⟨w.heap.size, 0, none⟩) ∧ WW ih il ∧ WW jh jl ∧ nv2 ih il jh jl = nv2 ah al bh bl - nv2 ch cl dh dl - 1 ∧ HoldsW W w.heap.size na ih il jh jl x ma ∧ HoldsW W (w.heap.size + 1) nb ch cl dh dl x' true ∧ HoldsW W (w.heap.size + 1 + 1) false 0 0 0 0 0 false ∧ Below w.heap.size w W)
  case first =>
    go_region_with
      (first
        | (go_at_call 59; refine (of_any 1 _).mono ?_; rintro e w' ⟨rfl, o1, rfl⟩)
        | (go_at_call 104; refine (SE.out _).mono ?_; rintro e w3 ⟨ih, il, jh, jl, k, S, rfl, hb3⟩;
           have R0 := Lib.hid (HoldsW.below (by repeat' (first | (with_reducible exact D0.out) | (with_reducible refine HoldsW.alloc ?_ _) | (with_reducible refine HoldsW.drew ?_))) hb3 : HoldsW w3 w.heap.size na h l h' l' x ma);
           have R1 := Lib.hid (HoldsW.below (by repeat' (first | (with_reducible exact D1.out) | (with_reducible refine HoldsW.alloc ?_ _) | (with_reducible refine HoldsW.drew ?_))) hb3 : HoldsW w3 (w.heap.size + 1) nb ch cl dh dl x' true);
           have R2 := Lib.hid (HoldsW.below (by repeat' (first | (with_reducible exact D2.out) | (with_reducible refine HoldsW.alloc ?_ _) | (with_reducible refine HoldsW.drew ?_))) hb3 : HoldsW w3 (w.heap.size + 1 + 1) false 0 0 0 0 0 false);
           have BB := (bstep (w := w) (by repeat' (first | (with_reducible exact B1) | (with_reducible refine ballD ?_ _) | (with_reducible refine Below.drew ?_))) hb3 : Below w.heap.size w w3);
           obtain ⟨⟨p1, p2, p3, p4, p5, p6, p7⟩, ⟨p8, p9, p10, p11, p12, p13, p14⟩, p15⟩ := R0.out; clear hb3))
    all_goals
      have ST := Lib.hid S
      clear S
      go_wp2
      go_meet
      case rel =>
        refine ⟨ih, il, jh, jl, rfl, ST.out.1, ST.out.2.1, ?_, R0.out.putN _ _ _ _, R1.out.far4 _ _ _ _ _ (by omega) _ _ _ _, R2.out.far4 _ _ _ _ _ (by omega) _ _ _ _, Below.set4 BB _ _ _ _ _ (Nat.le_refl _) _ _ _ _⟩
        rw [sub_two ST.out HV.out.1, HV.out.2, SS.out.2]
  case rest =>
  clear a1 a2 a3 a4 a5 a6 a7 a9 a10 a11 a12 a14 a15 b7 b15 D0 D1 D2 B1 SE HV SS HQ
  obtain ⟨ih, il, jh, jl, rfl, F1, F2, F3, A0, A1, A2, B1⟩ := hcut
  have SS := Lib.hid (And.intro (And.intro F1 F2) F3)
  have D0 := Lib.hid A0
  have D1 := Lib.hid A1
  have D2 := Lib.hid A2
  clear F1 F2 F3 A0 A1 A2
  generalize wc = V1 at *
  obtain ⟨⟨a1, a2, a3, a4, a5, a6, a7⟩, ⟨_, _, _, _, _, _, a14⟩, a15⟩ := D0.out
  obtain ⟨⟨_, _, _, _, _, _, b7⟩, _, b15⟩ := D1.out
  go_upto_region 5 with fail
  replace B1 := Below.set1 B1 w.heap.size 6 (Nat.le_refl _) (.bool true)
  replace D0 := Lib.hid (D0.out.putM true)
  replace D2 := Lib.hid (D2.out.far (p := ⟨w.heap.size, 6, none⟩) (by show _ ≠ _; dsimp only; omega) (.bool true))
  clear a1 a2 a3 a4 a5 a6 a7 a14 a15 b7 b15 D1
  generalize V1.setCell ⟨w.heap.size, 6, none⟩ (.bool true) = V2 at *
  obtain ⟨⟨a1, a2, a3, a4, a5, a6, a7⟩, _, a15⟩ := D0.out
  obtain ⟨⟨c1, c2, c3, c4, c5, c6, c7⟩, ⟨c8, c9, c10, c11, c12, c13, c14⟩, c15⟩ := D2.out
  go_wp2
  refine ret_via (fun VF => HoldsW VF (w.heap.size + 1 + 1) na ih il jh jl x true) (v := Wv na ih il jh jl x true) (by rintro VF ⟨⟨e1, e2, e3, e4, e5, e6, e7⟩, _, _⟩; simp [results, Tryd.results91, go_sem, e1, e2, e3, e4, e5, e6, e7]) (D2.out.putAll _ _ _ _ _ _ _) rfl ⟨_, _, _, _, _, _, _, ⟨rfl, SS.out.1.1, SS.out.1.2, SS.out.2, rfl, rfl⟩, rfl, Below.set7 B1 _ (by omega) _ _ _ _ _ _ _⟩
end Go.Proofs.YtncpdoeikebomaaDoor
