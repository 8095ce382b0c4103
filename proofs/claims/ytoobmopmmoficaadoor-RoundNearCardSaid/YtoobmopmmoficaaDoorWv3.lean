/-
  The statement RoundNear, walked: it answers true, where the document's examples do.
-/
import Derived.Test.YtoobmopmmoficaaDoorPn
import Derived.Deep.RegionHeld3
namespace Go.Proofs.YtoobmopmmoficaaDoor
open Go.RowKit

theorem keepS16 {W w' : World} {g0 o0 g1 o1 g2 o2 g3 o3 g4 o4 g5 o5 g6 o6 g7 o7 g8 o8 g9 o9 g10 o10 g11 o11 g12 o12 g13 o13 g14 o14 g15 o15 : Nat} {v0 v1 v2 v3 v4 v5 v6 v7 v8 v9 v10 v11 v12 v13 v14 v15 : Value} (hb : Below W.heap.size W w') (h : W.cell? ⟨g0, o0, none⟩ = some v0 ∧ W.cell? ⟨g1, o1, none⟩ = some v1 ∧ W.cell? ⟨g2, o2, none⟩ = some v2 ∧ W.cell? ⟨g3, o3, none⟩ = some v3 ∧ W.cell? ⟨g4, o4, none⟩ = some v4 ∧ W.cell? ⟨g5, o5, none⟩ = some v5 ∧ W.cell? ⟨g6, o6, none⟩ = some v6 ∧ W.cell? ⟨g7, o7, none⟩ = some v7 ∧ W.cell? ⟨g8, o8, none⟩ = some v8 ∧ W.cell? ⟨g9, o9, none⟩ = some v9 ∧ W.cell? ⟨g10, o10, none⟩ = some v10 ∧ W.cell? ⟨g11, o11, none⟩ = some v11 ∧ W.cell? ⟨g12, o12, none⟩ = some v12 ∧ W.cell? ⟨g13, o13, none⟩ = some v13 ∧ W.cell? ⟨g14, o14, none⟩ = some v14 ∧ W.cell? ⟨g15, o15, none⟩ = some v15) : w'.cell? ⟨g0, o0, none⟩ = some v0 ∧ w'.cell? ⟨g1, o1, none⟩ = some v1 ∧ w'.cell? ⟨g2, o2, none⟩ = some v2 ∧ w'.cell? ⟨g3, o3, none⟩ = some v3 ∧ w'.cell? ⟨g4, o4, none⟩ = some v4 ∧ w'.cell? ⟨g5, o5, none⟩ = some v5 ∧ w'.cell? ⟨g6, o6, none⟩ = some v6 ∧ w'.cell? ⟨g7, o7, none⟩ = some v7 ∧ w'.cell? ⟨g8, o8, none⟩ = some v8 ∧ w'.cell? ⟨g9, o9, none⟩ = some v9 ∧ w'.cell? ⟨g10, o10, none⟩ = some v10 ∧ w'.cell? ⟨g11, o11, none⟩ = some v11 ∧ w'.cell? ⟨g12, o12, none⟩ = some v12 ∧ w'.cell? ⟨g13, o13, none⟩ = some v13 ∧ w'.cell? ⟨g14, o14, none⟩ = some v14 ∧ w'.cell? ⟨g15, o15, none⟩ = some v15 :=
  ⟨keepCell2 h.1 hb, keepCell2 h.2.1 hb, keepCell2 h.2.2.1 hb, keepCell2 h.2.2.2.1 hb, keepCell2 h.2.2.2.2.1 hb, keepCell2 h.2.2.2.2.2.1 hb, keepCell2 h.2.2.2.2.2.2.1 hb, keepCell2 h.2.2.2.2.2.2.2.1 hb, keepCell2 h.2.2.2.2.2.2.2.2.1 hb, keepCell2 h.2.2.2.2.2.2.2.2.2.1 hb, keepCell2 h.2.2.2.2.2.2.2.2.2.2.1 hb, keepCell2 h.2.2.2.2.2.2.2.2.2.2.2.1 hb, keepCell2 h.2.2.2.2.2.2.2.2.2.2.2.2.1 hb, keepCell2 h.2.2.2.2.2.2.2.2.2.2.2.2.2.1 hb, keepCell2 h.2.2.2.2.2.2.2.2.2.2.2.2.2.2.1 hb, keepCell2 h.2.2.2.2.2.2.2.2.2.2.2.2.2.2.2 hb⟩
theorem keep16B {W w' : World} {g0 o0 g1 o1 g2 o2 g3 o3 g4 o4 g5 o5 g6 o6 g7 o7 g8 o8 g9 o9 g10 o10 g11 o11 g12 o12 g13 o13 g14 o14 g15 o15 : Nat} {v0 v1 v2 v3 v4 v5 v6 v7 v8 v9 v10 v11 v12 v13 v14 v15 : Value} (h : W.cell? ⟨g0, o0, none⟩ = some v0 ∧ W.cell? ⟨g1, o1, none⟩ = some v1 ∧ W.cell? ⟨g2, o2, none⟩ = some v2 ∧ W.cell? ⟨g3, o3, none⟩ = some v3 ∧ W.cell? ⟨g4, o4, none⟩ = some v4 ∧ W.cell? ⟨g5, o5, none⟩ = some v5 ∧ W.cell? ⟨g6, o6, none⟩ = some v6 ∧ W.cell? ⟨g7, o7, none⟩ = some v7 ∧ W.cell? ⟨g8, o8, none⟩ = some v8 ∧ W.cell? ⟨g9, o9, none⟩ = some v9 ∧ W.cell? ⟨g10, o10, none⟩ = some v10 ∧ W.cell? ⟨g11, o11, none⟩ = some v11 ∧ W.cell? ⟨g12, o12, none⟩ = some v12 ∧ W.cell? ⟨g13, o13, none⟩ = some v13 ∧ W.cell? ⟨g14, o14, none⟩ = some v14 ∧ W.cell? ⟨g15, o15, none⟩ = some v15) (hb : Below W.heap.size W w') : w'.cell? ⟨g0, o0, none⟩ = some v0 ∧ w'.cell? ⟨g1, o1, none⟩ = some v1 ∧ w'.cell? ⟨g2, o2, none⟩ = some v2 ∧ w'.cell? ⟨g3, o3, none⟩ = some v3 ∧ w'.cell? ⟨g4, o4, none⟩ = some v4 ∧ w'.cell? ⟨g5, o5, none⟩ = some v5 ∧ w'.cell? ⟨g6, o6, none⟩ = some v6 ∧ w'.cell? ⟨g7, o7, none⟩ = some v7 ∧ w'.cell? ⟨g8, o8, none⟩ = some v8 ∧ w'.cell? ⟨g9, o9, none⟩ = some v9 ∧ w'.cell? ⟨g10, o10, none⟩ = some v10 ∧ w'.cell? ⟨g11, o11, none⟩ = some v11 ∧ w'.cell? ⟨g12, o12, none⟩ = some v12 ∧ w'.cell? ⟨g13, o13, none⟩ = some v13 ∧ w'.cell? ⟨g14, o14, none⟩ = some v14 ∧ w'.cell? ⟨g15, o15, none⟩ = some v15 ∧ Below W.heap.size W w' :=
  ⟨keepCell2 h.1 hb, keepCell2 h.2.1 hb, keepCell2 h.2.2.1 hb, keepCell2 h.2.2.2.1 hb, keepCell2 h.2.2.2.2.1 hb, keepCell2 h.2.2.2.2.2.1 hb, keepCell2 h.2.2.2.2.2.2.1 hb, keepCell2 h.2.2.2.2.2.2.2.1 hb, keepCell2 h.2.2.2.2.2.2.2.2.1 hb, keepCell2 h.2.2.2.2.2.2.2.2.2.1 hb, keepCell2 h.2.2.2.2.2.2.2.2.2.2.1 hb, keepCell2 h.2.2.2.2.2.2.2.2.2.2.2.1 hb, keepCell2 h.2.2.2.2.2.2.2.2.2.2.2.2.1 hb, keepCell2 h.2.2.2.2.2.2.2.2.2.2.2.2.2.1 hb, keepCell2 h.2.2.2.2.2.2.2.2.2.2.2.2.2.2.1 hb, keepCell2 h.2.2.2.2.2.2.2.2.2.2.2.2.2.2.2 hb, hb⟩

set_option linter.unusedSimpArgs false in
set_option maxRecDepth 100000 in
set_option maxHeartbeats 8000000 in
theorem roundNear_walk (AW : ∀ w : World, Tab w → Calls Tryd.prog 31 #[] w (RetB true w)) (n : Bool) (h l : Nat) (x : Int) (h0 : WW h l) (x1 : -9223372036854775808 ≤ x) (x2 : x ≤ 9223372036854775807) (w : World) (ht : Tab w) :
    Calls Tryd.prog 7 #[Dv n h l x] w (RetB true w) := by
  have HT := Lib.hid ht
  have AWH := Lib.hid AW
  have M1 := Lib.hid (make_any n h l x h0 x1 x2)
  clear ht AW h0 x1 x2
  go_enter Tryd.func7, Tryd.ntmps7
  go_wp2_with fail
  refine (AWH.out _ (HT.out.below (by go_grown))).mono ?_
  rintro e' w1 ⟨rfl, hb1⟩
  have A0 := Lib.hid (HoldsD.below (by simp [HoldsD, go_sem]) hb1 : HoldsD w1 w.heap.size n h l x)
  have B : Below w.heap.size w w1 := bstep (by go_grown) hb1
  clear hb1 AWH
  obtain ⟨⟨c1_1, c1_2, c1_3, c1_4⟩, -, c1_9⟩ := A0.out
  go_wp2_with fail
  refine (M1.out _ (HT.out.below B)).mono ?_
  rintro e y1 ⟨na, ah, al, ea, NA, rfl, hb⟩
  clear c1_1 c1_2 c1_3 c1_4 c1_9
  replace A0 := Lib.hid (A0.out.below hb)
  replace B := bstep B hb
  clear hb
  clear M1
  clear A0
  replace B := ballD1 B (.cells #[.bool na, .int .u64 (ah : Int), .int .u64 (al : Int), .int .i64 ea] 28)
  have P3 := Lib.hid (show HoldsD (y1.alloc (.cells #[.bool na, .int .u64 (ah : Int), .int .u64 (al : Int), .int .i64 ea] 28)) y1.heap.size na ah al ea from by simp [HoldsD, go_sem])
  go_upto_region 4 with fail
  obtain ⟨g, hg⟩ : ∃ g, g = y1.heap.size := ⟨_, rfl⟩
  rw [← hg] at P3
  rw [← hg]
  generalize y1.alloc (.cells #[.bool na, .int .u64 (ah : Int), .int .u64 (al : Int), .int .i64 ea] 28) = V1 at *
  clear hg
  have HN := Lib.hid NA
  have FL := Lib.hid (floor_r na ah al ea NA.1 NA.2.1)
  have CE := Lib.hid (ceiling_r na ah al ea NA.1 NA.2.1)
  obtain ⟨⟨fs, fc, fx⟩, hf⟩ : ∃ t, rwF 6 na (nv ah al) ea = t := ⟨_, rfl⟩
  obtain ⟨⟨cs, cc, cx⟩, hc⟩ : ∃ t, rwF 7 na (nv ah al) ea = t := ⟨_, rfl⟩
  rw [hf] at FL
  rw [hc] at CE
  have HF := Lib.hid (And.intro hf hc)
  clear NA hf hc
  have z0 : g < V1.heap.size + 1 := by have := P3.out.2.2; omega
  obtain ⟨⟨c2_1, c2_2, c2_3, c2_4⟩, -, c2_9⟩ := P3.out
  go_cut [4, 5] (fun p q W => ∃ (i j : Nat) (n4 : Bool) (h4 l4 : Nat) (x4 : Int) (n5 : Bool) (h5 l5 : Nat) (x5 : Int), p = .pointer (some ⟨i, 0, none⟩) ∧ q = .pointer (some ⟨j, 0, none⟩) ∧ (WW h4 l4 ∧ (n4, nv h4 l4, x4) = (fs, fc, fx)) ∧ (WW h5 l5 ∧ (n5, nv h5 l5, x5) = (cs, cc, cx)) ∧ HoldsD W i n4 h4 l4 x4 ∧ HoldsD W j n5 h5 l5 x5 ∧ Below V1.heap.size V1 W)
  case first =>
    go_region_held3 (fun w' => w'.cell? ⟨g, 0, none⟩ = some (.bool na) ∧ w'.cell? ⟨g, 1, none⟩ = some (.int .u64 (ah : Int)) ∧ w'.cell? ⟨g, 2, none⟩ = some (.int .u64 (al : Int)) ∧ w'.cell? ⟨g, 3, none⟩ = some (.int .i64 ea))
      (repeat' (first | (with_reducible assumption) | (with_reducible refine keep4a ?_) | (with_reducible refine keep4d ?_) | (with_reducible refine keep4s ?_ ?_) | (with_reducible exact ⟨c2_1, c2_2, c2_3, c2_4⟩) | (with_reducible refine keep4 (by with_reducible assumption) ?_) | (show _ ≠ _; (try dsimp only); omega)))
      (first
        | (go_at_call 32; (with_reducible refine (FL.out _ ?_).mono ?_); (exact HT.out.below (by repeat' (first | (with_reducible exact B) | (with_reducible refine Below.drew ?_) | (with_reducible refine ballD1 ?_ _) | (with_reducible refine bstep ?_ (by with_reducible assumption))))); rintro e wF ⟨nF, hF, lF, xF, WF, eqF, rfl, hbF⟩; obtain ⟨hcF, hfF⟩ := bcell hbF; have szF := hbF.size; (try simp only [World.size_alloc, World.size_drew] at szF); (try (have : V1.heap.size < wF.heap.size := (by omega))); (try (have : V1.heap.size + 1 < wF.heap.size := (by omega))))
        | (go_at_call 33; (with_reducible refine (CE.out _ ?_).mono ?_); (exact HT.out.below (by repeat' (first | (with_reducible exact B) | (with_reducible refine Below.drew ?_) | (with_reducible refine ballD1 ?_ _) | (with_reducible refine bstep ?_ (by with_reducible assumption))))); rintro e wC ⟨nC, hC, lC, xC, WC, eqC, rfl, hbC⟩; obtain ⟨hcC, hfC⟩ := bcell hbC; have szC := hbC.size; (try simp only [World.size_alloc, World.size_drew] at szC); (try (have : V1.heap.size < wC.heap.size := (by omega))); (try (have : V1.heap.size + 1 < wC.heap.size := (by omega))); (try (have : wF.heap.size < wC.heap.size := (by omega)))))
    all_goals
      go_wp2
      go_meet
      case rel =>
        refine ⟨_, _, nF, hF, lF, xF, nC, hC, lC, xC, rfl, rfl, ⟨WF, eqF⟩, ⟨WC, eqC⟩, ?_, ?_, ?_⟩
        · clear c2_1 c2_2 c2_3 c2_4 hcF hfF hcC hfC
          repeat' (first | (with_reducible refine HoldsD.put4 (a := false) (b := 0) (c := 0) (d := 0) ?_) | (with_reducible refine HoldsD.far ?_ ?_ _) | ((with_reducible refine HoldsD.new4 ?_); (first | rfl | (simp; done))) | ((with_reducible refine HoldsD.zero4 ?_); (first | rfl | (simp; done))) | (with_reducible refine HoldsD.alloc ?_ _) | (with_reducible refine HoldsD.drew2 ?_) | (with_reducible refine HoldsD.below ?_ (by with_reducible assumption)) | (show _ ≠ _; (try dsimp only); omega))
        · clear c2_1 c2_2 c2_3 c2_4 hcF hfF hcC hfC
          repeat' (first | (with_reducible refine HoldsD.put4 (a := false) (b := 0) (c := 0) (d := 0) ?_) | (with_reducible refine HoldsD.far ?_ ?_ _) | ((with_reducible refine HoldsD.new4 ?_); (first | rfl | (simp; done))) | ((with_reducible refine HoldsD.zero4 ?_); (first | rfl | (simp; done))) | (with_reducible refine HoldsD.alloc ?_ _) | (with_reducible refine HoldsD.drew2 ?_) | (with_reducible refine HoldsD.below ?_ (by with_reducible assumption)) | (show _ ≠ _; (try dsimp only); omega))
        · clear c2_1 c2_2 c2_3 c2_4 hcF hfF hcC hfC
          repeat' (first | (with_reducible exact Below.refl _ _) | (with_reducible refine Below.drew ?_) | (with_reducible refine ballD1 ?_ _) | (with_reducible refine Below.set1' ?_ _ _ ?_ _) | (with_reducible refine bstep ?_ (by with_reducible assumption)) | omega)
  case rest =>
  clear c2_1 c2_2 c2_3 c2_4 c2_9
  obtain ⟨i, j, n4, h4, l4, x4, n5, h5, l5, x5, rfl, rfl, ⟨W4, q4⟩, ⟨W5, q5⟩, P4, P5, hb⟩ := hcut
  replace P4 := Lib.hid P4
  replace P5 := Lib.hid P5
  replace P3 := Lib.hid (P3.out.below hb)
  replace B := bstep B hb
  clear hb z0 FL CE
  generalize wc = V2 at *
  have f6 := HF.out.1.trans q4.symm
  have f7 := HF.out.2.trans q5.symm
  obtain ⟨D4, z4, e4⟩ := rwF_num HN.out.2.1 HN.out.2.2 f6
  obtain ⟨D5, z5, e5⟩ := rwF_num HN.out.2.1 HN.out.2.2 f7
  obtain ⟨⟨rs, rc, rx⟩, hadd, LT⟩ : ∃ r, addF n4 (nv h4 l4) x4 false 1 0 = some r ∧ (ea < 0 → vlZ na (nv ah al) ea < vlZ r.1 r.2.1 r.2.2) := by
    by_cases e0 : ea < 0
    · obtain ⟨y0, b4, z4', -, lt⟩ := floor_near HN.out.2.1 HN.out.2.2 e0 f6
      obtain ⟨s', N', k, -, v⟩ := add_one b4 z4'
      rw [y0]
      exact ⟨_, k, fun _ => by show _ < vlZ s' N' 0; rw [v]; exact lt⟩
    · obtain ⟨r, k⟩ := add_one_some (n := n4) D4 e4
      exact ⟨r, k, fun h => absurd h e0⟩
  have LE : vlZ n4 (nv h4 l4) x4 ≤ vlZ na (nv ah al) ea := by
    by_cases e0 : ea < 0
    · obtain ⟨y0, -, -, le, -⟩ := floor_near HN.out.2.1 HN.out.2.2 e0 f6
      rw [y0]; exact le
    · rw [rwF_up (by omega)] at f6
      simp only [Prod.mk.injEq] at f6
      obtain ⟨rfl, k, rfl⟩ := f6
      rw [k]
      exact Int.le_refl _
  obtain ⟨⟨s6, c6, y6⟩, h6⟩ : ∃ t, rwF 6 (!na && !decide (nv ah al = 0)) (nv ah al) ea = t := ⟨_, rfl⟩
  have tn := (ceil_turn HN.out.2.1 HN.out.2.2 h6).symm.trans f7
  simp only [Prod.mk.injEq] at tn
  obtain ⟨t1, t6, t7⟩ := tn
  subst t6
  have t7' := t7.symm
  clear t7
  subst t7'
  have NR := (fitF_may hadd (sumF_bound D4.1 (by decide))).2.1
  have AD := Lib.hid (addD_any n4 h4 l4 x4 false 0 1 0 W4 (ww1 (by decide)) D4 (by rw [nv01]; decide))
  rw [nv01, hadd] at AD
  obtain ⟨sg, hsg⟩ : ∃ sg, sg = (!na && !decide (nv ah al = 0)) := ⟨_, rfl⟩
  have NA1 := Lib.hid (show ∀ w : World, Calls Tryd.prog 36 #[Dv na ah al ea] w (fun e w' => e = .returned (Dv sg ah al ea) ∧ Below w.heap.size w w') from fun w => (neg_any na ah al ea w).mono fun e w' H => by
    obtain ⟨a, b, c, d, ⟨rfl, rfl, rfl, rfl⟩, rfl, hb⟩ := H
    exact ⟨by rw [hsg], hb⟩)
  have FN := Lib.hid (show ∀ w : World, Tab w → Calls Tryd.prog 32 #[Dv sg ah al ea] w (fun e w' => e = .returned (Dv s6 h5 l5 x5) ∧ Below w.heap.size w w') from fun w ht => by
    have k := floor_r sg ah al ea HN.out.1 HN.out.2.1 w ht
    rw [hsg, h6, ← hsg] at k
    refine k.mono fun e w' H => ?_
    obtain ⟨a, b, c, d, W, eq, rfl, hb⟩ := H
    simp only [Prod.mk.injEq] at eq
    obtain ⟨rfl, e2, rfl⟩ := eq
    obtain ⟨rfl, rfl⟩ := nv_inj W W5 e2
    exact ⟨rfl, hb⟩)
  have NA2 := Lib.hid (show ∀ w : World, Calls Tryd.prog 36 #[Dv s6 h5 l5 x5] w (fun e w' => e = .returned (Dv n5 h5 l5 x5) ∧ Below w.heap.size w w') from fun w => (neg_any s6 h5 l5 x5 w).mono fun e w' H => by
    obtain ⟨a, b, c, d, ⟨rfl, rfl, rfl, rfl⟩, rfl, hb⟩ := H
    exact ⟨by rw [t1], hb⟩)
  have FF := Lib.hid (show ∀ w : World, Tab w → Calls Tryd.prog 32 #[Dv n4 h4 l4 x4] w (fun e w' => e = .returned (Dv n4 h4 l4 x4) ∧ Below w.heap.size w w') from fun w ht => by
    have k := floor_r n4 h4 l4 x4 W4 D4 w ht
    rw [rwF_up e4] at k
    refine k.mono fun e w' H => ?_
    obtain ⟨a, b, c, d, W, eq, rfl, hb⟩ := H
    simp only [Prod.mk.injEq] at eq
    obtain ⟨rfl, e2, rfl⟩ := eq
    obtain ⟨rfl, rfl⟩ := nv_inj W W4 e2
    exact ⟨rfl, hb⟩)
  have CM1 := Lib.hid (cmp_dec n4 h4 l4 x4 na ah al ea W4 HN.out.1 D4.2.1 D4.2.2 HN.out.2.1.2.1 HN.out.2.1.2.2)
  rw [cmpD_val D4 HN.out.2.1] at CM1
  have t2 : decide (cmpZ (vlZ n4 (nv h4 l4) x4) (vlZ na (nv ah al) ea) ≤ 0) = true := decide_eq_true (cmpZ_le.2 LE)
  generalize cmpZ (vlZ n4 (nv h4 l4) x4) (vlZ na (nv ah al) ea) = cv1 at *
  have t4 : decide (0 ≤ x4) = true := decide_eq_true e4
  have IN := Lib.hid (show ∀ w : World, Calls Tryd.prog 29 #[.int .i64 1] w (fun e w' => e = .returned (Dv false 0 1 0) ∧ Below w.heap.size w w') from fun w => (int_yes 1 (by decide) w).mono fun e w' H => by
    obtain ⟨a, b, c, d, ⟨rfl, rfl, rfl, rfl⟩, rfl, hb⟩ := H
    exact ⟨rfl, hb⟩)
  have HR := Lib.hid (And.intro NR LT)
  clear f6 f7 D4 z4 e4 D5 z5 e5 LT LE h6 t1 NR hadd hsg q4 q5 W4 W5 HF
  go_upto_region 5 with fail
  have z4 : i < V2.heap.size + 1 := by have := P4.out.2.2; omega
  obtain ⟨⟨c3_1, c3_2, c3_3, c3_4⟩, -, c3_9⟩ := P4.out
  go_cut [6, 7] (fun p q W => ∃ (r : Nat) (n6 : Bool) (h6 l6 : Nat) (x6 : Int), p = .pointer (some ⟨r, 0, none⟩) ∧ q = .bool true ∧ WW h6 l6 ∧ (n6, nv h6 l6, x6) = (rs, rc, rx) ∧ HoldsD W r n6 h6 l6 x6 ∧ Below V2.heap.size V2 W)
  case first =>
    go_region_held3 (fun w' => w'.cell? ⟨i, 0, none⟩ = some (.bool n4) ∧ w'.cell? ⟨i, 1, none⟩ = some (.int .u64 (h4 : Int)) ∧ w'.cell? ⟨i, 2, none⟩ = some (.int .u64 (l4 : Int)) ∧ w'.cell? ⟨i, 3, none⟩ = some (.int .i64 x4))
      (repeat' (first | (with_reducible assumption) | (with_reducible refine keep4a ?_) | (with_reducible refine keep4d ?_) | (with_reducible refine keep4s ?_ ?_) | (with_reducible exact ⟨c3_1, c3_2, c3_3, c3_4⟩) | (with_reducible refine keep4 (by with_reducible assumption) ?_) | (show _ ≠ _; (try dsimp only); omega)))
      (first
        | (go_at_call 29; (refine (IN.out _).mono ?_); rintro e wN ⟨rfl, hbN⟩; obtain ⟨hcN, hfN⟩ := bcell hbN; have szN := hbN.size; (try simp only [World.size_alloc, World.size_drew] at szN); (try (have : V2.heap.size < wN.heap.size := (by omega))); (try (have : V2.heap.size + 1 < wN.heap.size := (by omega))))
        | (go_at_call 34; (refine (AD.out _ ?_).mono ?_); (exact HT.out.below (by repeat' (first | (with_reducible exact B) | (with_reducible refine Below.drew ?_) | (with_reducible refine ballD1 ?_ _) | (with_reducible refine bstep ?_ (by with_reducible assumption))))); rintro e wA ⟨nA, hA, lA, xA, kA, NA, rfl, hbA⟩; obtain ⟨WA, rfl, eA1, eA2, eA3⟩ := NA; have HNA := Lib.hid (And.intro eA1 (And.intro eA2 eA3)); clear eA1 eA2 eA3; obtain ⟨hcA, hfA⟩ := bcell hbA; have szA := hbA.size; (try simp only [World.size_alloc, World.size_drew] at szA); (try (have : V2.heap.size < wA.heap.size := (by omega))); (try (have : V2.heap.size + 1 < wA.heap.size := (by omega)))))
    all_goals
      go_wp2
      go_meet
      case rel =>
        refine ⟨_, nA, hA, lA, xA, rfl, rfl, WA, by rw [HNA.out.1, HNA.out.2.1, HNA.out.2.2], ?_, ?_⟩
        · clear c3_1 c3_2 c3_3 c3_4 hcN hfN hcA hfA
          repeat' (first | (with_reducible refine HoldsD.put4 (a := false) (b := 0) (c := 0) (d := 0) ?_) | (with_reducible refine HoldsD.far ?_ ?_ _) | ((with_reducible refine HoldsD.new4 ?_); (first | rfl | (simp; done))) | ((with_reducible refine HoldsD.zero4 ?_); (first | rfl | (simp; done))) | (with_reducible refine HoldsD.alloc ?_ _) | (with_reducible refine HoldsD.drew2 ?_) | (with_reducible refine HoldsD.below ?_ (by with_reducible assumption)) | (show _ ≠ _; (try dsimp only); omega))
        · clear c3_1 c3_2 c3_3 c3_4 hcN hfN hcA hfA
          repeat' (first | (with_reducible exact Below.refl _ _) | (with_reducible refine Below.drew ?_) | (with_reducible refine ballD1 ?_ _) | (with_reducible refine Below.set1' ?_ _ _ ?_ _) | (with_reducible refine bstep ?_ (by with_reducible assumption)) | omega)
  case rest =>
  obtain ⟨r, n6, h6, l6, x6, rfl, rfl, W6, q6, P6, hb⟩ := hcut
  replace P6 := Lib.hid P6
  replace P3 := Lib.hid (P3.out.below hb)
  replace P4 := Lib.hid (P4.out.below hb)
  replace P5 := Lib.hid (P5.out.below hb)
  replace B := bstep B hb
  clear hb z4 AD IN
  clear c3_1 c3_2 c3_3 c3_4 c3_9
  generalize wc = V3 at *
  simp only [Prod.mk.injEq] at q6
  obtain ⟨rfl, rfl, rfl⟩ := q6
  have CM2 := Lib.hid (cmp_dec na ah al ea n6 h6 l6 x6 HN.out.1 W6 HN.out.2.1.2.1 HN.out.2.1.2.2 HR.out.1.2.1 HR.out.1.2.2)
  rw [cmpD_val HN.out.2.1 HR.out.1] at CM2
  have t5 : (decide (cmpZ (vlZ na (nv ah al) ea) (vlZ n6 (nv h6 l6) x6) < 0) = true) ∨ (decide (0 ≤ ea) = true) := by
    by_cases e0 : ea < 0
    · exact .inl (decide_eq_true (cmpZ_lt.2 (HR.out.2 e0)))
    · exact .inr (decide_eq_true (by omega))
  generalize cmpZ (vlZ na (nv ah al) ea) (vlZ n6 (nv h6 l6) x6) = cv2 at *
  clear HR HN W6
  go_upto_region 6 with fail
  obtain ⟨⟨c4_1, c4_2, c4_3, c4_4⟩, -, c4_9⟩ := P3.out
  obtain ⟨⟨c5_1, c5_2, c5_3, c5_4⟩, -, c5_9⟩ := P4.out
  obtain ⟨⟨c6_1, c6_2, c6_3, c6_4⟩, -, c6_9⟩ := P5.out
  obtain ⟨⟨c7_1, c7_2, c7_3, c7_4⟩, -, c7_9⟩ := P6.out
  cases t6 : decide (cv2 < 0)
  · have t7 : decide (0 ≤ ea) = true := by
      rcases t5 with t5 | t5
      · rw [t6] at t5; exact absurd t5 (by decide)
      · exact t5
    clear t5
    go_region_held3 (fun w' => w'.cell? ⟨g, 0, none⟩ = some (.bool na) ∧ w'.cell? ⟨g, 1, none⟩ = some (.int .u64 (ah : Int)) ∧ w'.cell? ⟨g, 2, none⟩ = some (.int .u64 (al : Int)) ∧ w'.cell? ⟨g, 3, none⟩ = some (.int .i64 ea) ∧ w'.cell? ⟨i, 0, none⟩ = some (.bool n4) ∧ w'.cell? ⟨i, 1, none⟩ = some (.int .u64 (h4 : Int)) ∧ w'.cell? ⟨i, 2, none⟩ = some (.int .u64 (l4 : Int)) ∧ w'.cell? ⟨i, 3, none⟩ = some (.int .i64 x4) ∧ w'.cell? ⟨j, 0, none⟩ = some (.bool n5) ∧ w'.cell? ⟨j, 1, none⟩ = some (.int .u64 (h5 : Int)) ∧ w'.cell? ⟨j, 2, none⟩ = some (.int .u64 (l5 : Int)) ∧ w'.cell? ⟨j, 3, none⟩ = some (.int .i64 x5) ∧ w'.cell? ⟨r, 0, none⟩ = some (.bool n6) ∧ w'.cell? ⟨r, 1, none⟩ = some (.int .u64 (h6 : Int)) ∧ w'.cell? ⟨r, 2, none⟩ = some (.int .u64 (l6 : Int)) ∧ w'.cell? ⟨r, 3, none⟩ = some (.int .i64 x6))
      (first | (with_reducible assumption) | (with_reducible exact keepS16 (bundrew (by with_reducible assumption)) (by with_reducible assumption)) | (with_reducible exact keepS16 (by with_reducible assumption) (by with_reducible assumption)) | exact ⟨c4_1, c4_2, c4_3, c4_4, c5_1, c5_2, c5_3, c5_4, c6_1, c6_2, c6_3, c6_4, c7_1, c7_2, c7_3, c7_4⟩)
      (first
        | (go_at_call 35; (first | (with_reducible refine (CM1.out _ ?_).mono ?_) | (with_reducible refine (CM2.out _ ?_).mono ?_)); (exact HT.out.below (by repeat' (first | (with_reducible exact B) | (with_reducible refine Below.drew ?_) | (with_reducible refine ballD1 ?_ _) | (with_reducible refine bstep ?_ (by with_reducible assumption))))); rintro e wC ⟨rfl, hbC⟩)
        | (go_at_call 36; (first | (with_reducible refine (NA1.out _).mono ?_) | (with_reducible refine (NA2.out _).mono ?_)); rintro e wG ⟨rfl, hbG⟩)
        | (go_at_call 32; (first | (with_reducible refine (FN.out _ ?_).mono ?_) | (with_reducible refine (FF.out _ ?_).mono ?_)); (exact HT.out.below (by repeat' (first | (with_reducible exact B) | (with_reducible refine Below.drew ?_) | (with_reducible refine ballD1 ?_ _) | (with_reducible refine bstep ?_ (by with_reducible assumption))))); rintro e wF ⟨rfl, hbF⟩))
    all_goals
      clear c4_1 c4_2 c4_3 c4_4 c4_9 c5_1 c5_2 c5_3 c5_4 c5_9 c6_1 c6_2 c6_3 c6_4 c6_9 c7_1 c7_2 c7_3 c7_4 c7_9
      go_wp2
      go_ret
      refine ⟨rfl, ?_⟩
      repeat' (first | (with_reducible exact B) | (with_reducible refine Below.drew ?_) | (with_reducible refine ballD1 ?_ _) | (with_reducible refine bstep ?_ (by with_reducible assumption)))
  · clear t5
    refine wp_region_held_drew (S := fun w' => w'.cell? ⟨g, 0, none⟩ = some (.bool na) ∧ w'.cell? ⟨g, 1, none⟩ = some (.int .u64 (ah : Int)) ∧ w'.cell? ⟨g, 2, none⟩ = some (.int .u64 (al : Int)) ∧ w'.cell? ⟨g, 3, none⟩ = some (.int .i64 ea) ∧ w'.cell? ⟨i, 0, none⟩ = some (.bool n4) ∧ w'.cell? ⟨i, 1, none⟩ = some (.int .u64 (h4 : Int)) ∧ w'.cell? ⟨i, 2, none⟩ = some (.int .u64 (l4 : Int)) ∧ w'.cell? ⟨i, 3, none⟩ = some (.int .i64 x4) ∧ w'.cell? ⟨j, 0, none⟩ = some (.bool n5) ∧ w'.cell? ⟨j, 1, none⟩ = some (.int .u64 (h5 : Int)) ∧ w'.cell? ⟨j, 2, none⟩ = some (.int .u64 (l5 : Int)) ∧ w'.cell? ⟨j, 3, none⟩ = some (.int .i64 x5) ∧ w'.cell? ⟨r, 0, none⟩ = some (.bool n6) ∧ w'.cell? ⟨r, 1, none⟩ = some (.int .u64 (h6 : Int)) ∧ w'.cell? ⟨r, 2, none⟩ = some (.int .u64 (l6 : Int)) ∧ w'.cell? ⟨r, 3, none⟩ = some (.int .i64 x6) ∧ Below V3.heap.size V3 w') (by kernel_rfl) ?_ (fun hHeld => ?_)
    · exact keep16B ⟨c4_1, c4_2, c4_3, c4_4, c5_1, c5_2, c5_3, c5_4, c6_1, c6_2, c6_3, c6_4, c7_1, c7_2, c7_3, c7_4⟩ (Below.refl _ _).drew
    refine wpAnyH_take (i := 0) (oi := { dst := some 22, op := Go.Op.move (Go.Operand.tmp 7), type := 4, pos := "law.go:86", after := #[], guard := none }) (v := ?_) rfl (by kernel_rfl) (by kernel_rfl) (by kernel_rfl) (fun _ _ _ h => h) (Or.inl ⟨by rfl, ?_⟩) (by assumption) ?_
    rotate_left
    · intro w hSw
      try dsimp only at hSw
      go_simp
      try with_reducible rfl
    try simp only [Act.put, List.setIfInBounds_toArray, List.set_cons_zero, List.set_cons_succ]
    refine wpAnyH_take (i := 1) (oi := { dst := some 23, op := Go.Op.move (Go.Operand.tmp 22), type := 4, pos := "law.go:86", after := #[{ on := 0, ground := Go.Ground.data }], guard := none }) (v := ?_) rfl (by kernel_rfl) (by kernel_rfl) (by kernel_rfl) (fun _ _ _ h => h) (Or.inl ⟨by rfl, ?_⟩) (by assumption) ?_
    rotate_left
    · intro w hSw
      try dsimp only at hSw
      go_simp
      try with_reducible rfl
    try simp only [Act.put, List.setIfInBounds_toArray, List.set_cons_zero, List.set_cons_succ]
    refine wpAnyH_take (i := 2) (oi := { dst := some 24, op := Go.Op.load 28 (Go.Operand.tmp 4), type := 28, pos := "law.go:86", after := #[{ on := 1, ground := Go.Ground.guard }], guard := some (1, true) }) (v := ?_) rfl (by kernel_rfl) (by kernel_rfl) (by kernel_rfl) (fun _ _ _ h => h) (Or.inl ⟨by rfl, ?_⟩) (by assumption) ?_
    rotate_left
    · intro w hSw
      try dsimp only at hSw
      go_simp
      try with_reducible rfl
    try simp only [Act.put, List.setIfInBounds_toArray, List.set_cons_zero, List.set_cons_succ]
    refine wpAnyH_take (i := 3) (oi := { dst := some 25, op := Go.Op.load 28 (Go.Operand.tmp 3), type := 28, pos := "law.go:86", after := #[{ on := 1, ground := Go.Ground.guard }], guard := some (1, true) }) (v := ?_) rfl (by kernel_rfl) (by kernel_rfl) (by kernel_rfl) (fun _ _ _ h => h) (Or.inl ⟨by rfl, ?_⟩) (by assumption) ?_
    rotate_left
    · intro w hSw
      try dsimp only at hSw
      go_simp
      try with_reducible rfl
    try simp only [Act.put, List.setIfInBounds_toArray, List.set_cons_zero, List.set_cons_succ]
    refine wpAnyH_ready (rs := [4]) (by kernel_rfl) (by simp) ?_
    refine AllReadyH.cons (o := { dst := some 26, op := Go.Op.call { callee := Go.Callee.value (Go.Operand.func 35), args := #[Go.Operand.tmp 24, Go.Operand.tmp 25], argTypes := #[28, 28] }, type := 3, pos := "law.go:86", after := #[{ on := 2, ground := Go.Ground.data }, { on := 3, ground := Go.Ground.data }, { on := 1, ground := Go.Ground.chain }, { on := 1, ground := Go.Ground.guard }], guard := some (1, true) }) rfl (fun K hK => ?_) AllReadyH.nil
    go_simp
    refine (CM1.out _ (HT.out.below (bstep B hHeld.2.2.2.2.2.2.2.2.2.2.2.2.2.2.2.2))).mono ?_
    rintro e v1 ⟨rfl, hbv1⟩
    have HBx := Lib.hid (bstep hHeld.2.2.2.2.2.2.2.2.2.2.2.2.2.2.2.2 hbv1)
    clear hHeld hbv1
    refine hK.out _ _ ?_ (fun hHeld => ?_)
    · exact keep16B ⟨c4_1, c4_2, c4_3, c4_4, c5_1, c5_2, c5_3, c5_4, c6_1, c6_2, c6_3, c6_4, c7_1, c7_2, c7_3, c7_4⟩ HBx.out
    clear hK K HBx
    try simp only [Act.put, List.setIfInBounds_toArray, List.set_cons_zero, List.set_cons_succ]
    refine wpAnyH_take (i := 5) (oi := { dst := some 27, op := Go.Op.binOp Go.BinOp.leq 3 (Go.Operand.tmp 26) (Go.Operand.const (Go.Value.int Go.IntKind.i64 0)) 3, type := 4, pos := "law.go:86", after := #[{ on := 4, ground := Go.Ground.data }, { on := 1, ground := Go.Ground.guard }], guard := some (1, true) }) (v := ?_) rfl (by kernel_rfl) (by kernel_rfl) (by kernel_rfl) (fun _ _ _ h => h) (Or.inl ⟨by rfl, ?_⟩) (by assumption) ?_
    rotate_left
    · intro w hSw
      try dsimp only at hSw
      go_simp
      try with_reducible rfl
    try simp only [Act.put, List.setIfInBounds_toArray, List.set_cons_zero, List.set_cons_succ]
    refine wpAnyH_take (i := 6) (oi := { dst := some 28, op := Go.Op.pick (Go.Operand.tmp 23) (Go.Operand.tmp 27) (Go.Operand.const (Go.Value.bool false)), type := 4, pos := "law.go:86", after := #[{ on := 1, ground := Go.Ground.data }, { on := 5, ground := Go.Ground.data }], guard := none }) (v := ?_) rfl (by kernel_rfl) (by kernel_rfl) (by kernel_rfl) (fun _ _ _ h => h) (Or.inl ⟨by rfl, ?_⟩) (by assumption) ?_
    rotate_left
    · intro w hSw
      try dsimp only at hSw
      go_simp
      try with_reducible rfl
    try simp only [Act.put, List.setIfInBounds_toArray, List.set_cons_zero, List.set_cons_succ]
    refine wpAnyH_take (i := 7) (oi := { dst := some 29, op := Go.Op.move (Go.Operand.tmp 28), type := 4, pos := "law.go:86", after := #[{ on := 6, ground := Go.Ground.data }, { on := 4, ground := Go.Ground.chain }], guard := none }) (v := ?_) rfl (by kernel_rfl) (by kernel_rfl) (by kernel_rfl) (fun _ _ _ h => h) (Or.inl ⟨by rfl, ?_⟩) (by assumption) ?_
    rotate_left
    · intro w hSw
      try dsimp only at hSw
      go_simp
      try with_reducible rfl
    try simp only [Act.put, List.setIfInBounds_toArray, List.set_cons_zero, List.set_cons_succ]
    refine wpAnyH_take (i := 8) (oi := { dst := some 30, op := Go.Op.load 28 (Go.Operand.tmp 3), type := 28, pos := "law.go:86", after := #[{ on := 7, ground := Go.Ground.guard }], guard := some (7, true) }) (v := ?_) rfl (by kernel_rfl) (by kernel_rfl) (by kernel_rfl) (fun _ _ _ h => h) (Or.inl ⟨by rfl, ?_⟩) (by assumption) ?_
    rotate_left
    · intro w hSw
      try dsimp only at hSw
      go_simp
      try with_reducible rfl
    try simp only [Act.put, List.setIfInBounds_toArray, List.set_cons_zero, List.set_cons_succ]
    refine wpAnyH_take (i := 9) (oi := { dst := some 31, op := Go.Op.load 28 (Go.Operand.tmp 6), type := 28, pos := "law.go:86", after := #[{ on := 7, ground := Go.Ground.guard }], guard := some (7, true) }) (v := ?_) rfl (by kernel_rfl) (by kernel_rfl) (by kernel_rfl) (fun _ _ _ h => h) (Or.inl ⟨by rfl, ?_⟩) (by assumption) ?_
    rotate_left
    · intro w hSw
      try dsimp only at hSw
      go_simp
      try with_reducible rfl
    try simp only [Act.put, List.setIfInBounds_toArray, List.set_cons_zero, List.set_cons_succ]
    refine wpAnyH_ready (rs := [10]) (by kernel_rfl) (by simp) ?_
    refine AllReadyH.cons (o := { dst := some 32, op := Go.Op.call { callee := Go.Callee.value (Go.Operand.func 35), args := #[Go.Operand.tmp 30, Go.Operand.tmp 31], argTypes := #[28, 28] }, type := 3, pos := "law.go:86", after := #[{ on := 8, ground := Go.Ground.data }, { on := 9, ground := Go.Ground.data }, { on := 7, ground := Go.Ground.chain }, { on := 7, ground := Go.Ground.guard }], guard := some (7, true) }) rfl (fun K hK => ?_) AllReadyH.nil
    go_simp
    refine (CM2.out _ (HT.out.below (bstep B hHeld.2.2.2.2.2.2.2.2.2.2.2.2.2.2.2.2))).mono ?_
    rintro e v2 ⟨rfl, hbv2⟩
    have HBx := Lib.hid (bstep hHeld.2.2.2.2.2.2.2.2.2.2.2.2.2.2.2.2 hbv2)
    clear hHeld hbv2
    refine hK.out _ _ ?_ (fun hHeld => ?_)
    · exact keep16B ⟨c4_1, c4_2, c4_3, c4_4, c5_1, c5_2, c5_3, c5_4, c6_1, c6_2, c6_3, c6_4, c7_1, c7_2, c7_3, c7_4⟩ HBx.out
    clear hK K HBx
    try simp only [Act.put, List.setIfInBounds_toArray, List.set_cons_zero, List.set_cons_succ]
    refine wpAnyH_take (i := 11) (oi := { dst := some 33, op := Go.Op.binOp Go.BinOp.lss 3 (Go.Operand.tmp 32) (Go.Operand.const (Go.Value.int Go.IntKind.i64 0)) 3, type := 4, pos := "law.go:86", after := #[{ on := 10, ground := Go.Ground.data }, { on := 7, ground := Go.Ground.guard }], guard := some (7, true) }) (v := ?_) rfl (by kernel_rfl) (by kernel_rfl) (by kernel_rfl) (fun _ _ _ h => h) (Or.inl ⟨by rfl, ?_⟩) (by assumption) ?_
    rotate_left
    · intro w hSw
      try dsimp only at hSw
      go_simp
      try with_reducible rfl
    try simp only [Act.put, List.setIfInBounds_toArray, List.set_cons_zero, List.set_cons_succ]
    refine wpAnyH_take (i := 12) (oi := { dst := some 34, op := Go.Op.move (Go.Operand.tmp 33), type := 4, pos := "law.go:86", after := #[{ on := 11, ground := Go.Ground.data }, { on := 10, ground := Go.Ground.chain }, { on := 7, ground := Go.Ground.guard }], guard := some (7, true) }) (v := ?_) rfl (by kernel_rfl) (by kernel_rfl) (by kernel_rfl) (fun _ _ _ h => h) (Or.inl ⟨by rfl, ?_⟩) (by assumption) ?_
    rotate_left
    · intro w hSw
      try dsimp only at hSw
      go_simp
      try with_reducible rfl
    try simp only [Act.put, List.setIfInBounds_toArray, List.set_cons_zero, List.set_cons_succ]
    refine wpAnyH_take (i := 13) (oi := { dst := some 35, op := Go.Op.fieldAddr 28 (Go.Operand.tmp 3) 2, type := 0, pos := "law.go:86", after := #[{ on := 12, ground := Go.Ground.guard }], guard := some (12, false) }) (v := undef) rfl (by kernel_rfl) (by kernel_rfl) (by kernel_rfl) (fun _ _ _ h => h) (Or.inr ⟨by rfl, rfl⟩) (by assumption) ?_
    try simp only [Act.put, List.setIfInBounds_toArray, List.set_cons_zero, List.set_cons_succ]
    refine wpAnyH_take (i := 14) (oi := { dst := some 36, op := Go.Op.load 3 (Go.Operand.tmp 35), type := 3, pos := "law.go:86", after := #[{ on := 13, ground := Go.Ground.data }, { on := 12, ground := Go.Ground.guard }], guard := some (12, false) }) (v := undef) rfl (by kernel_rfl) (by kernel_rfl) (by kernel_rfl) (fun _ _ _ h => h) (Or.inr ⟨by rfl, rfl⟩) (by assumption) ?_
    try simp only [Act.put, List.setIfInBounds_toArray, List.set_cons_zero, List.set_cons_succ]
    refine wpAnyH_take (i := 15) (oi := { dst := some 37, op := Go.Op.binOp Go.BinOp.geq 3 (Go.Operand.tmp 36) (Go.Operand.const (Go.Value.int Go.IntKind.i64 0)) 3, type := 4, pos := "law.go:86", after := #[{ on := 14, ground := Go.Ground.data }, { on := 12, ground := Go.Ground.guard }], guard := some (12, false) }) (v := undef) rfl (by kernel_rfl) (by kernel_rfl) (by kernel_rfl) (fun _ _ _ h => h) (Or.inr ⟨by rfl, rfl⟩) (by assumption) ?_
    try simp only [Act.put, List.setIfInBounds_toArray, List.set_cons_zero, List.set_cons_succ]
    refine wpAnyH_take (i := 16) (oi := { dst := some 38, op := Go.Op.pick (Go.Operand.tmp 34) (Go.Operand.const (Go.Value.bool true)) (Go.Operand.tmp 37), type := 4, pos := "law.go:86", after := #[{ on := 12, ground := Go.Ground.data }, { on := 15, ground := Go.Ground.data }, { on := 7, ground := Go.Ground.guard }], guard := some (7, true) }) (v := ?_) rfl (by kernel_rfl) (by kernel_rfl) (by kernel_rfl) (fun _ _ _ h => h) (Or.inl ⟨by rfl, ?_⟩) (by assumption) ?_
    rotate_left
    · intro w hSw
      try dsimp only at hSw
      go_simp
      try with_reducible rfl
    try simp only [Act.put, List.setIfInBounds_toArray, List.set_cons_zero, List.set_cons_succ]
    refine wpAnyH_take (i := 17) (oi := { dst := some 39, op := Go.Op.pick (Go.Operand.tmp 29) (Go.Operand.tmp 38) (Go.Operand.const (Go.Value.bool false)), type := 4, pos := "law.go:86", after := #[{ on := 7, ground := Go.Ground.data }, { on := 16, ground := Go.Ground.data }], guard := none }) (v := ?_) rfl (by kernel_rfl) (by kernel_rfl) (by kernel_rfl) (fun _ _ _ h => h) (Or.inl ⟨by rfl, ?_⟩) (by assumption) ?_
    rotate_left
    · intro w hSw
      try dsimp only at hSw
      go_simp
      try with_reducible rfl
    try simp only [Act.put, List.setIfInBounds_toArray, List.set_cons_zero, List.set_cons_succ]
    refine wpAnyH_take (i := 18) (oi := { dst := some 40, op := Go.Op.move (Go.Operand.tmp 39), type := 4, pos := "law.go:86", after := #[{ on := 17, ground := Go.Ground.data }, { on := 12, ground := Go.Ground.chain }], guard := none }) (v := ?_) rfl (by kernel_rfl) (by kernel_rfl) (by kernel_rfl) (fun _ _ _ h => h) (Or.inl ⟨by rfl, ?_⟩) (by assumption) ?_
    rotate_left
    · intro w hSw
      try dsimp only at hSw
      go_simp
      try with_reducible rfl
    try simp only [Act.put, List.setIfInBounds_toArray, List.set_cons_zero, List.set_cons_succ]
    refine wpAnyH_take (i := 19) (oi := { dst := some 41, op := Go.Op.load 28 (Go.Operand.tmp 5), type := 28, pos := "law.go:86", after := #[{ on := 18, ground := Go.Ground.guard }], guard := some (18, true) }) (v := ?_) rfl (by kernel_rfl) (by kernel_rfl) (by kernel_rfl) (fun _ _ _ h => h) (Or.inl ⟨by rfl, ?_⟩) (by assumption) ?_
    rotate_left
    · intro w hSw
      try dsimp only at hSw
      go_simp
      try with_reducible rfl
    try simp only [Act.put, List.setIfInBounds_toArray, List.set_cons_zero, List.set_cons_succ]
    refine wpAnyH_take (i := 20) (oi := { dst := some 42, op := Go.Op.load 28 (Go.Operand.tmp 3), type := 28, pos := "law.go:86", after := #[{ on := 18, ground := Go.Ground.guard }], guard := some (18, true) }) (v := ?_) rfl (by kernel_rfl) (by kernel_rfl) (by kernel_rfl) (fun _ _ _ h => h) (Or.inl ⟨by rfl, ?_⟩) (by assumption) ?_
    rotate_left
    · intro w hSw
      try dsimp only at hSw
      go_simp
      try with_reducible rfl
    try simp only [Act.put, List.setIfInBounds_toArray, List.set_cons_zero, List.set_cons_succ]
    refine wpAnyH_ready (rs := [21]) (by kernel_rfl) (by simp) ?_
    refine AllReadyH.cons (o := { dst := some 43, op := Go.Op.call { callee := Go.Callee.value (Go.Operand.func 36), args := #[Go.Operand.tmp 42], argTypes := #[28] }, type := 28, pos := "law.go:86", after := #[{ on := 20, ground := Go.Ground.data }, { on := 18, ground := Go.Ground.chain }, { on := 18, ground := Go.Ground.guard }], guard := some (18, true) }) rfl (fun K hK => ?_) AllReadyH.nil
    go_simp
    refine (NA1.out _).mono ?_
    rintro e v3 ⟨rfl, hbv3⟩
    have HBx := Lib.hid (bstep hHeld.2.2.2.2.2.2.2.2.2.2.2.2.2.2.2.2 hbv3)
    clear hHeld hbv3
    refine hK.out _ _ ?_ (fun hHeld => ?_)
    · exact keep16B ⟨c4_1, c4_2, c4_3, c4_4, c5_1, c5_2, c5_3, c5_4, c6_1, c6_2, c6_3, c6_4, c7_1, c7_2, c7_3, c7_4⟩ HBx.out
    clear hK K HBx
    try simp only [Act.put, List.setIfInBounds_toArray, List.set_cons_zero, List.set_cons_succ]
    refine wpAnyH_ready (rs := [22]) (by kernel_rfl) (by simp) ?_
    refine AllReadyH.cons (o := { dst := some 44, op := Go.Op.call { callee := Go.Callee.value (Go.Operand.func 32), args := #[Go.Operand.tmp 43], argTypes := #[28] }, type := 28, pos := "law.go:86", after := #[{ on := 21, ground := Go.Ground.data }, { on := 21, ground := Go.Ground.chain }, { on := 18, ground := Go.Ground.guard }], guard := some (18, true) }) rfl (fun K hK => ?_) AllReadyH.nil
    go_simp
    refine (FN.out _ (HT.out.below (bstep B hHeld.2.2.2.2.2.2.2.2.2.2.2.2.2.2.2.2))).mono ?_
    rintro e v4 ⟨rfl, hbv4⟩
    have HBx := Lib.hid (bstep hHeld.2.2.2.2.2.2.2.2.2.2.2.2.2.2.2.2 hbv4)
    clear hHeld hbv4
    refine hK.out _ _ ?_ (fun hHeld => ?_)
    · exact keep16B ⟨c4_1, c4_2, c4_3, c4_4, c5_1, c5_2, c5_3, c5_4, c6_1, c6_2, c6_3, c6_4, c7_1, c7_2, c7_3, c7_4⟩ HBx.out
    clear hK K HBx
    try simp only [Act.put, List.setIfInBounds_toArray, List.set_cons_zero, List.set_cons_succ]
    refine wpAnyH_ready (rs := [23]) (by kernel_rfl) (by simp) ?_
    refine AllReadyH.cons (o := { dst := some 45, op := Go.Op.call { callee := Go.Callee.value (Go.Operand.func 36), args := #[Go.Operand.tmp 44], argTypes := #[28] }, type := 28, pos := "law.go:86", after := #[{ on := 22, ground := Go.Ground.data }, { on := 22, ground := Go.Ground.chain }, { on := 18, ground := Go.Ground.guard }], guard := some (18, true) }) rfl (fun K hK => ?_) AllReadyH.nil
    go_simp
    refine (NA2.out _).mono ?_
    rintro e v5 ⟨rfl, hbv5⟩
    have HBx := Lib.hid (bstep hHeld.2.2.2.2.2.2.2.2.2.2.2.2.2.2.2.2 hbv5)
    clear hHeld hbv5
    refine hK.out _ _ ?_ (fun hHeld => ?_)
    · exact keep16B ⟨c4_1, c4_2, c4_3, c4_4, c5_1, c5_2, c5_3, c5_4, c6_1, c6_2, c6_3, c6_4, c7_1, c7_2, c7_3, c7_4⟩ HBx.out
    clear hK K HBx
    try simp only [Act.put, List.setIfInBounds_toArray, List.set_cons_zero, List.set_cons_succ]
    refine wpAnyH_take (i := 24) (oi := { dst := some 46, op := Go.Op.binOp Go.BinOp.eql 28 (Go.Operand.tmp 41) (Go.Operand.tmp 45) 28, type := 4, pos := "law.go:86", after := #[{ on := 19, ground := Go.Ground.data }, { on := 23, ground := Go.Ground.data }, { on := 18, ground := Go.Ground.guard }], guard := some (18, true) }) (v := ?_) rfl (by kernel_rfl) (by kernel_rfl) (by kernel_rfl) (fun _ _ _ h => h) (Or.inl ⟨by rfl, ?_⟩) (by assumption) ?_
    rotate_left
    · intro w hSw
      try dsimp only at hSw
      go_simp
      try with_reducible rfl
    try simp only [Act.put, List.setIfInBounds_toArray, List.set_cons_zero, List.set_cons_succ]
    refine wpAnyH_take (i := 25) (oi := { dst := some 47, op := Go.Op.pick (Go.Operand.tmp 40) (Go.Operand.tmp 46) (Go.Operand.const (Go.Value.bool false)), type := 4, pos := "law.go:86", after := #[{ on := 18, ground := Go.Ground.data }, { on := 24, ground := Go.Ground.data }], guard := none }) (v := ?_) rfl (by kernel_rfl) (by kernel_rfl) (by kernel_rfl) (fun _ _ _ h => h) (Or.inl ⟨by rfl, ?_⟩) (by assumption) ?_
    rotate_left
    · intro w hSw
      try dsimp only at hSw
      go_simp
      try with_reducible rfl
    try simp only [Act.put, List.setIfInBounds_toArray, List.set_cons_zero, List.set_cons_succ]
    refine wpAnyH_take (i := 26) (oi := { dst := some 48, op := Go.Op.move (Go.Operand.tmp 47), type := 4, pos := "law.go:86", after := #[{ on := 25, ground := Go.Ground.data }, { on := 23, ground := Go.Ground.chain }], guard := none }) (v := ?_) rfl (by kernel_rfl) (by kernel_rfl) (by kernel_rfl) (fun _ _ _ h => h) (Or.inl ⟨by rfl, ?_⟩) (by assumption) ?_
    rotate_left
    · intro w hSw
      try dsimp only at hSw
      go_simp
      try with_reducible rfl
    try simp only [Act.put, List.setIfInBounds_toArray, List.set_cons_zero, List.set_cons_succ]
    refine wpAnyH_take (i := 27) (oi := { dst := some 49, op := Go.Op.fieldAddr 28 (Go.Operand.tmp 4) 2, type := 0, pos := "law.go:86", after := #[{ on := 26, ground := Go.Ground.guard }], guard := some (26, true) }) (v := ?_) rfl (by kernel_rfl) (by kernel_rfl) (by kernel_rfl) (fun _ _ _ h => h) (Or.inl ⟨by rfl, ?_⟩) (by assumption) ?_
    rotate_left
    · intro w hSw
      try dsimp only at hSw
      go_simp
      try with_reducible rfl
    try simp only [Act.put, List.setIfInBounds_toArray, List.set_cons_zero, List.set_cons_succ]
    refine wpAnyH_take (i := 28) (oi := { dst := some 50, op := Go.Op.load 3 (Go.Operand.tmp 49), type := 3, pos := "law.go:86", after := #[{ on := 27, ground := Go.Ground.data }, { on := 26, ground := Go.Ground.guard }], guard := some (26, true) }) (v := ?_) rfl (by kernel_rfl) (by kernel_rfl) (by kernel_rfl) (fun _ _ _ h => h) (Or.inl ⟨by rfl, ?_⟩) (by assumption) ?_
    rotate_left
    · intro w hSw
      try dsimp only at hSw
      go_simp
      try with_reducible rfl
    try simp only [Act.put, List.setIfInBounds_toArray, List.set_cons_zero, List.set_cons_succ]
    refine wpAnyH_take (i := 29) (oi := { dst := some 51, op := Go.Op.binOp Go.BinOp.geq 3 (Go.Operand.tmp 50) (Go.Operand.const (Go.Value.int Go.IntKind.i64 0)) 3, type := 4, pos := "law.go:86", after := #[{ on := 28, ground := Go.Ground.data }, { on := 26, ground := Go.Ground.guard }], guard := some (26, true) }) (v := ?_) rfl (by kernel_rfl) (by kernel_rfl) (by kernel_rfl) (fun _ _ _ h => h) (Or.inl ⟨by rfl, ?_⟩) (by assumption) ?_
    rotate_left
    · intro w hSw
      try dsimp only at hSw
      go_simp
      try with_reducible rfl
    try simp only [Act.put, List.setIfInBounds_toArray, List.set_cons_zero, List.set_cons_succ]
    refine wpAnyH_take (i := 30) (oi := { dst := some 52, op := Go.Op.pick (Go.Operand.tmp 48) (Go.Operand.tmp 51) (Go.Operand.const (Go.Value.bool false)), type := 4, pos := "law.go:86", after := #[{ on := 26, ground := Go.Ground.data }, { on := 29, ground := Go.Ground.data }], guard := none }) (v := ?_) rfl (by kernel_rfl) (by kernel_rfl) (by kernel_rfl) (fun _ _ _ h => h) (Or.inl ⟨by rfl, ?_⟩) (by assumption) ?_
    rotate_left
    · intro w hSw
      try dsimp only at hSw
      go_simp
      try with_reducible rfl
    try simp only [Act.put, List.setIfInBounds_toArray, List.set_cons_zero, List.set_cons_succ]
    refine wpAnyH_take (i := 31) (oi := { dst := some 53, op := Go.Op.move (Go.Operand.tmp 52), type := 4, pos := "law.go:86", after := #[{ on := 30, ground := Go.Ground.data }, { on := 26, ground := Go.Ground.chain }], guard := none }) (v := ?_) rfl (by kernel_rfl) (by kernel_rfl) (by kernel_rfl) (fun _ _ _ h => h) (Or.inl ⟨by rfl, ?_⟩) (by assumption) ?_
    rotate_left
    · intro w hSw
      try dsimp only at hSw
      go_simp
      try with_reducible rfl
    try simp only [Act.put, List.setIfInBounds_toArray, List.set_cons_zero, List.set_cons_succ]
    refine wpAnyH_take (i := 32) (oi := { dst := some 54, op := Go.Op.load 28 (Go.Operand.tmp 4), type := 28, pos := "law.go:86", after := #[{ on := 31, ground := Go.Ground.guard }], guard := some (31, true) }) (v := ?_) rfl (by kernel_rfl) (by kernel_rfl) (by kernel_rfl) (fun _ _ _ h => h) (Or.inl ⟨by rfl, ?_⟩) (by assumption) ?_
    rotate_left
    · intro w hSw
      try dsimp only at hSw
      go_simp
      try with_reducible rfl
    try simp only [Act.put, List.setIfInBounds_toArray, List.set_cons_zero, List.set_cons_succ]
    refine wpAnyH_take (i := 34) (oi := { dst := some 56, op := Go.Op.load 28 (Go.Operand.tmp 4), type := 28, pos := "law.go:86", after := #[{ on := 31, ground := Go.Ground.guard }], guard := some (31, true) }) (v := ?_) rfl (by kernel_rfl) (by kernel_rfl) (by kernel_rfl) (fun _ _ _ h => h) (Or.inl ⟨by rfl, ?_⟩) (by assumption) ?_
    rotate_left
    · intro w hSw
      try dsimp only at hSw
      go_simp
      try with_reducible rfl
    try simp only [Act.put, List.setIfInBounds_toArray, List.set_cons_zero, List.set_cons_succ]
    refine wpAnyH_ready (rs := [33]) (by kernel_rfl) (by simp) ?_
    refine AllReadyH.cons (o := { dst := some 55, op := Go.Op.call { callee := Go.Callee.value (Go.Operand.func 32), args := #[Go.Operand.tmp 54], argTypes := #[28] }, type := 28, pos := "law.go:86", after := #[{ on := 32, ground := Go.Ground.data }, { on := 31, ground := Go.Ground.chain }, { on := 31, ground := Go.Ground.guard }], guard := some (31, true) }) rfl (fun K hK => ?_) AllReadyH.nil
    go_simp
    refine (FF.out _ (HT.out.below (bstep B hHeld.2.2.2.2.2.2.2.2.2.2.2.2.2.2.2.2))).mono ?_
    rintro e v6 ⟨rfl, hbv6⟩
    have HBx := Lib.hid (bstep hHeld.2.2.2.2.2.2.2.2.2.2.2.2.2.2.2.2 hbv6)
    clear hHeld hbv6
    refine hK.out _ _ ?_ (fun hHeld => ?_)
    · exact keep16B ⟨c4_1, c4_2, c4_3, c4_4, c5_1, c5_2, c5_3, c5_4, c6_1, c6_2, c6_3, c6_4, c7_1, c7_2, c7_3, c7_4⟩ HBx.out
    clear hK K HBx
    try simp only [Act.put, List.setIfInBounds_toArray, List.set_cons_zero, List.set_cons_succ]
    refine wpAnyH_take (i := 35) (oi := { dst := some 57, op := Go.Op.binOp Go.BinOp.eql 28 (Go.Operand.tmp 55) (Go.Operand.tmp 56) 28, type := 4, pos := "law.go:86", after := #[{ on := 33, ground := Go.Ground.data }, { on := 34, ground := Go.Ground.data }, { on := 31, ground := Go.Ground.guard }], guard := some (31, true) }) (v := ?_) rfl (by kernel_rfl) (by kernel_rfl) (by kernel_rfl) (fun _ _ _ h => h) (Or.inl ⟨by rfl, ?_⟩) (by assumption) ?_
    rotate_left
    · intro w hSw
      try dsimp only at hSw
      go_simp
      try with_reducible rfl
    try simp only [Act.put, List.setIfInBounds_toArray, List.set_cons_zero, List.set_cons_succ]
    refine wpAnyH_take (i := 36) (oi := { dst := some 58, op := Go.Op.pick (Go.Operand.tmp 53) (Go.Operand.tmp 57) (Go.Operand.const (Go.Value.bool false)), type := 4, pos := "law.go:86", after := #[{ on := 31, ground := Go.Ground.data }, { on := 35, ground := Go.Ground.data }], guard := none }) (v := ?_) rfl (by kernel_rfl) (by kernel_rfl) (by kernel_rfl) (fun _ _ _ h => h) (Or.inl ⟨by rfl, ?_⟩) (by assumption) ?_
    rotate_left
    · intro w hSw
      try dsimp only at hSw
      go_simp
      try with_reducible rfl
    try simp only [Act.put, List.setIfInBounds_toArray, List.set_cons_zero, List.set_cons_succ]
    refine wpAnyH_take (i := 37) (oi := { dst := some 2, op := Go.Op.assign (Go.Operand.tmp 58), type := 4, pos := "law.go:86", after := #[{ on := 36, ground := Go.Ground.data }, { on := 33, ground := Go.Ground.chain }, { on := 0, ground := Go.Ground.phase }, { on := 1, ground := Go.Ground.phase }, { on := 2, ground := Go.Ground.phase }, { on := 3, ground := Go.Ground.phase }, { on := 4, ground := Go.Ground.phase }, { on := 5, ground := Go.Ground.phase }, { on := 6, ground := Go.Ground.phase }, { on := 7, ground := Go.Ground.phase }, { on := 8, ground := Go.Ground.phase }, { on := 9, ground := Go.Ground.phase }, { on := 10, ground := Go.Ground.phase }, { on := 11, ground := Go.Ground.phase }, { on := 12, ground := Go.Ground.phase }, { on := 13, ground := Go.Ground.phase }, { on := 14, ground := Go.Ground.phase }, { on := 15, ground := Go.Ground.phase }, { on := 16, ground := Go.Ground.phase }, { on := 17, ground := Go.Ground.phase }, { on := 18, ground := Go.Ground.phase }, { on := 19, ground := Go.Ground.phase }, { on := 20, ground := Go.Ground.phase }, { on := 21, ground := Go.Ground.phase }, { on := 22, ground := Go.Ground.phase }, { on := 23, ground := Go.Ground.phase }, { on := 24, ground := Go.Ground.phase }, { on := 25, ground := Go.Ground.phase }, { on := 26, ground := Go.Ground.phase }, { on := 27, ground := Go.Ground.phase }, { on := 28, ground := Go.Ground.phase }, { on := 29, ground := Go.Ground.phase }, { on := 30, ground := Go.Ground.phase }, { on := 31, ground := Go.Ground.phase }, { on := 32, ground := Go.Ground.phase }, { on := 33, ground := Go.Ground.phase }, { on := 34, ground := Go.Ground.phase }, { on := 35, ground := Go.Ground.phase }, { on := 36, ground := Go.Ground.phase }], guard := none }) (v := ?_) rfl (by kernel_rfl) (by kernel_rfl) (by kernel_rfl) (fun _ _ _ h => h) (Or.inl ⟨by rfl, ?_⟩) (by assumption) ?_
    rotate_left
    · intro w hSw
      try dsimp only at hSw
      go_simp
      try with_reducible rfl
    try simp only [Act.put, List.setIfInBounds_toArray, List.set_cons_zero, List.set_cons_succ]
    refine wpAnyH_done (by kernel_rfl) ?_ _
    go_wp2
    go_ret
    exact ⟨rfl, bstep B hHeld.2.2.2.2.2.2.2.2.2.2.2.2.2.2.2.2⟩
end Go.Proofs.YtoobmopmmoficaaDoor
