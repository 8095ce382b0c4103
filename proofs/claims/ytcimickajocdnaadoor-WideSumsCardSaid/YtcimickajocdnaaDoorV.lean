/-
  The statement WideSums, walked: it answers true.
-/
import Derived.Test.YtcimickajocdnaaDoorT
namespace Go.Proofs.YtcimickajocdnaaDoor
open Go.RowKit

theorem keep20 {W w' : World} {g1 o1 g2 o2 g3 o3 g4 o4 g5 o5 g6 o6 g7 o7 g8 o8 g9 o9 g10 o10 g11 o11 g12 o12 g13 o13 g14 o14 g15 o15 g16 o16 g17 o17 g18 o18 g19 o19 g20 o20 : Nat} {v1 v2 v3 v4 v5 v6 v7 v8 v9 v10 v11 v12 v13 v14 v15 v16 v17 v18 v19 v20 : Value} (hb : Below W.heap.size W w') (h : W.cell? ⟨g1, o1, none⟩ = some v1 ∧ W.cell? ⟨g2, o2, none⟩ = some v2 ∧ W.cell? ⟨g3, o3, none⟩ = some v3 ∧ W.cell? ⟨g4, o4, none⟩ = some v4 ∧ W.cell? ⟨g5, o5, none⟩ = some v5 ∧ W.cell? ⟨g6, o6, none⟩ = some v6 ∧ W.cell? ⟨g7, o7, none⟩ = some v7 ∧ W.cell? ⟨g8, o8, none⟩ = some v8 ∧ W.cell? ⟨g9, o9, none⟩ = some v9 ∧ W.cell? ⟨g10, o10, none⟩ = some v10 ∧ W.cell? ⟨g11, o11, none⟩ = some v11 ∧ W.cell? ⟨g12, o12, none⟩ = some v12 ∧ W.cell? ⟨g13, o13, none⟩ = some v13 ∧ W.cell? ⟨g14, o14, none⟩ = some v14 ∧ W.cell? ⟨g15, o15, none⟩ = some v15 ∧ W.cell? ⟨g16, o16, none⟩ = some v16 ∧ W.cell? ⟨g17, o17, none⟩ = some v17 ∧ W.cell? ⟨g18, o18, none⟩ = some v18 ∧ W.cell? ⟨g19, o19, none⟩ = some v19 ∧ W.cell? ⟨g20, o20, none⟩ = some v20) :
    w'.cell? ⟨g1, o1, none⟩ = some v1 ∧ w'.cell? ⟨g2, o2, none⟩ = some v2 ∧ w'.cell? ⟨g3, o3, none⟩ = some v3 ∧ w'.cell? ⟨g4, o4, none⟩ = some v4 ∧ w'.cell? ⟨g5, o5, none⟩ = some v5 ∧ w'.cell? ⟨g6, o6, none⟩ = some v6 ∧ w'.cell? ⟨g7, o7, none⟩ = some v7 ∧ w'.cell? ⟨g8, o8, none⟩ = some v8 ∧ w'.cell? ⟨g9, o9, none⟩ = some v9 ∧ w'.cell? ⟨g10, o10, none⟩ = some v10 ∧ w'.cell? ⟨g11, o11, none⟩ = some v11 ∧ w'.cell? ⟨g12, o12, none⟩ = some v12 ∧ w'.cell? ⟨g13, o13, none⟩ = some v13 ∧ w'.cell? ⟨g14, o14, none⟩ = some v14 ∧ w'.cell? ⟨g15, o15, none⟩ = some v15 ∧ w'.cell? ⟨g16, o16, none⟩ = some v16 ∧ w'.cell? ⟨g17, o17, none⟩ = some v17 ∧ w'.cell? ⟨g18, o18, none⟩ = some v18 ∧ w'.cell? ⟨g19, o19, none⟩ = some v19 ∧ w'.cell? ⟨g20, o20, none⟩ = some v20 :=
  ⟨keep_cell h.1 hb, keep_cell h.2.1 hb, keep_cell h.2.2.1 hb, keep_cell h.2.2.2.1 hb, keep_cell h.2.2.2.2.1 hb, keep_cell h.2.2.2.2.2.1 hb, keep_cell h.2.2.2.2.2.2.1 hb, keep_cell h.2.2.2.2.2.2.2.1 hb, keep_cell h.2.2.2.2.2.2.2.2.1 hb, keep_cell h.2.2.2.2.2.2.2.2.2.1 hb, keep_cell h.2.2.2.2.2.2.2.2.2.2.1 hb, keep_cell h.2.2.2.2.2.2.2.2.2.2.2.1 hb, keep_cell h.2.2.2.2.2.2.2.2.2.2.2.2.1 hb, keep_cell h.2.2.2.2.2.2.2.2.2.2.2.2.2.1 hb, keep_cell h.2.2.2.2.2.2.2.2.2.2.2.2.2.2.1 hb, keep_cell h.2.2.2.2.2.2.2.2.2.2.2.2.2.2.2.1 hb, keep_cell h.2.2.2.2.2.2.2.2.2.2.2.2.2.2.2.2.1 hb, keep_cell h.2.2.2.2.2.2.2.2.2.2.2.2.2.2.2.2.2.1 hb, keep_cell h.2.2.2.2.2.2.2.2.2.2.2.2.2.2.2.2.2.2.1 hb, keep_cell h.2.2.2.2.2.2.2.2.2.2.2.2.2.2.2.2.2.2.2 hb⟩

theorem down2 {W w' : World} {g a b : Nat} (h : Holds2 W g a b) (hb : Below W.heap.size W w') : Holds2 w' g a b := h.below hb

set_option maxRecDepth 100000 in
set_option maxHeartbeats 40000000 in
theorem wideSums_walk (ah al bh bl ch cl dh dl : Nat) (k1 : WW ah al) (k2 : WW bh bl) (k3 : WW ch cl) (k4 : WW dh dl) (w : World) (ht : Tab w) :
    Calls Tryd.prog 3 #[U ah al, U bh bl, U ch cl, U dh dl] w (RetB true w) := by
  have HT := Lib.hid ht
  clear ht
  go_enter Tryd.func3, Tryd.ntmps3
  go_wp2_with fail
  refine (awake_any _ (HT.out.below (by go_grown))).mono ?_
  rintro e w1 ⟨rfl, hb1⟩
  have A0 := Lib.hid (Holds2.below (by simp [Holds2, go_sem]) hb1 : Holds2 w1 (w.heap.size) ah al)
  have A1 := Lib.hid (Holds2.below (by simp [Holds2, go_sem]) hb1 : Holds2 w1 (w.heap.size + 1) bh bl)
  have A2 := Lib.hid (Holds2.below (by simp [Holds2, go_sem]) hb1 : Holds2 w1 (w.heap.size + 1 + 1) ch cl)
  have A3 := Lib.hid (Holds2.below (by simp [Holds2, go_sem]) hb1 : Holds2 w1 (w.heap.size + 1 + 1 + 1) dh dl)
  have B1 : Below w.heap.size w w1 := bstep (by go_grown) hb1
  clear hb1 HT
  obtain ⟨a1, a2, a3, a4, a5⟩ := A0.out
  obtain ⟨b1, b2, b3, b4, b5⟩ := A1.out
  go_wp2_with fail
  refine (add_any ah al bh bl k1 k2 _).mono ?_
  rintro e w2 ⟨sh, sl, o, ⟨s1, s2, s3⟩, rfl, hb2⟩
  have Q1 := Lib.hid s3
  clear s3
  clear a1 a2 a3 a4 a5 b1 b2 b3 b4 b5
  have B_0 := Lib.hid (A0.out.below hb2)
  have B_1 := Lib.hid (A1.out.below hb2)
  have B_2 := Lib.hid (A2.out.below hb2)
  have B_3 := Lib.hid (A3.out.below hb2)
  have B2 : Below w.heap.size w w2 := bstep B1 hb2
  clear hb2 A0 A1 A2 A3 B1
  obtain ⟨a1, a2, a3, a4, a5⟩ := B_0.out
  obtain ⟨_, a6, a7, a8, a9⟩ := lots a5
  obtain ⟨b1, b2, b3, b4, b5⟩ := B_1.out
  obtain ⟨_, b6, b7, b8, b9⟩ := lots b5
  go_wp2_with fail
  refine (sub_any ah al bh bl k1 k2 _).mono ?_
  rintro e w3 ⟨mh, ml, u, ⟨t1, t2, t3⟩, rfl, hb3⟩
  have Q2 := Lib.hid t3
  clear t3
  clear a1 a2 a3 a4 a5 a6 a7 a8 a9 b1 b2 b3 b4 b5 b6 b7 b8 b9
  have C0 := Lib.hid ((B_0.out.alloc _).below hb3)
  have C1 := Lib.hid ((B_1.out.alloc _).below hb3)
  have C2 := Lib.hid ((B_2.out.alloc _).below hb3)
  have C3 := Lib.hid ((B_3.out.alloc _).below hb3)
  have C4 := Lib.hid ((Holds2.new2 rfl : Holds2 _ w2.heap.size sh sl).below hb3)
  have B3 : Below w.heap.size w w3 := bstep (balloc B2 _) hb3
  clear hb3 B_0 B_1 B_2 B_3 B2
  obtain ⟨a1, a2, a3, a4, a5⟩ := C0.out
  obtain ⟨_, a6, a7, a8, a9⟩ := lots a5
  obtain ⟨b1, b2, b3, b4, b5⟩ := C1.out
  obtain ⟨_, b6, b7, b8, b9⟩ := lots b5
  obtain ⟨c1, c2, c3, c4, c5⟩ := C2.out
  obtain ⟨_, c6, c7, c8, c9⟩ := lots c5
  obtain ⟨d1, d2, d3, d4, d5⟩ := C3.out
  obtain ⟨_, d6, d7, d8, d9⟩ := lots d5
  go_wp2_with fail
  refine (add2_any ah al ch cl bh bl dh dl k1 k3 k2 k4 _).mono ?_
  rintro e w4 ⟨ph, pl, qh, ql, p, ⟨y1, y2, y3, y4⟩, rfl, hb4⟩
  have Q3 := Lib.hid y4
  clear y4
  clear a1 a2 a3 a4 a5 a6 a7 a8 a9 b1 b2 b3 b4 b5 b6 b7 b8 b9 c1 c2 c3 c4 c5 c6 c7 c8 c9 d1 d2 d3 d4 d5 d6 d7 d8 d9
  have D0 := Lib.hid ((C0.out.alloc _).below hb4)
  have D1 := Lib.hid ((C1.out.alloc _).below hb4)
  have D2 := Lib.hid ((C2.out.alloc _).below hb4)
  have D3 := Lib.hid ((C3.out.alloc _).below hb4)
  have D4 := Lib.hid ((C4.out.alloc _).below hb4)
  have D5 := Lib.hid ((Holds2.new2 rfl : Holds2 _ w3.heap.size mh ml).below hb4)
  have B4 : Below w.heap.size w w4 := bstep (balloc B3 _) hb4
  clear hb4 C0 C1 C2 C3 C4 B3
  obtain ⟨a1, a2, a3, a4, a5⟩ := D0.out
  obtain ⟨_, a6, a7, a8, a9⟩ := lots a5
  obtain ⟨b1, b2, b3, b4, b5⟩ := D1.out
  obtain ⟨_, b6, b7, b8, b9⟩ := lots b5
  obtain ⟨c1, c2, c3, c4, c5⟩ := D2.out
  obtain ⟨_, c6, c7, c8, c9⟩ := lots c5
  obtain ⟨d1, d2, d3, d4, d5⟩ := D3.out
  obtain ⟨_, d6, d7, d8, d9⟩ := lots d5
  go_wp2_with fail
  refine (sub2_any ah al ch cl bh bl dh dl k1 k3 k2 k4 _).mono ?_
  rintro e w5 ⟨rh, rl, th, tl, v, ⟨z1, z2, z3, z4⟩, rfl, hb5⟩
  have Q4 := Lib.hid z4
  clear z4
  clear a1 a2 a3 a4 a5 a6 a7 a8 a9 b1 b2 b3 b4 b5 b6 b7 b8 b9 c1 c2 c3 c4 c5 c6 c7 c8 c9 d1 d2 d3 d4 d5 d6 d7 d8 d9
  have E0 := Lib.hid (((D0.out.alloc _).alloc _).below hb5)
  have E1 := Lib.hid (((D1.out.alloc _).alloc _).below hb5)
  have E2 := Lib.hid (((D2.out.alloc _).alloc _).below hb5)
  have E3 := Lib.hid (((D3.out.alloc _).alloc _).below hb5)
  have E4 := Lib.hid (((D4.out.alloc _).alloc _).below hb5)
  have E5 := Lib.hid (((D5.out.alloc _).alloc _).below hb5)
  have E6 := Lib.hid (((Holds2.new2 rfl).alloc _ : Holds2 _ w4.heap.size ph pl).below hb5)
  have E7 := Lib.hid ((Holds2.new2 (by simp) : Holds2 _ (w4.heap.size + 1) qh ql).below hb5)
  have B5 : Below w.heap.size w w5 := bstep (balloc (balloc B4 _) _) hb5
  clear hb5 D0 D1 D2 D3 D4 D5 B4
  have F0 := (E0.out.alloc (.cells #[.int .u64 (rh : Int), .int .u64 (rl : Int)] 24)).alloc (.cells #[.int .u64 (th : Int), .int .u64 (tl : Int)] 24)
  have F1 := (E1.out.alloc (.cells #[.int .u64 (rh : Int), .int .u64 (rl : Int)] 24)).alloc (.cells #[.int .u64 (th : Int), .int .u64 (tl : Int)] 24)
  have F2 := (E2.out.alloc (.cells #[.int .u64 (rh : Int), .int .u64 (rl : Int)] 24)).alloc (.cells #[.int .u64 (th : Int), .int .u64 (tl : Int)] 24)
  have F3 := (E3.out.alloc (.cells #[.int .u64 (rh : Int), .int .u64 (rl : Int)] 24)).alloc (.cells #[.int .u64 (th : Int), .int .u64 (tl : Int)] 24)
  have F4 := (E4.out.alloc (.cells #[.int .u64 (rh : Int), .int .u64 (rl : Int)] 24)).alloc (.cells #[.int .u64 (th : Int), .int .u64 (tl : Int)] 24)
  have F5 := (E5.out.alloc (.cells #[.int .u64 (rh : Int), .int .u64 (rl : Int)] 24)).alloc (.cells #[.int .u64 (th : Int), .int .u64 (tl : Int)] 24)
  have F6 := (E6.out.alloc (.cells #[.int .u64 (rh : Int), .int .u64 (rl : Int)] 24)).alloc (.cells #[.int .u64 (th : Int), .int .u64 (tl : Int)] 24)
  have F7 := (E7.out.alloc (.cells #[.int .u64 (rh : Int), .int .u64 (rl : Int)] 24)).alloc (.cells #[.int .u64 (th : Int), .int .u64 (tl : Int)] 24)
  have F8 : Holds2 ((w5.alloc (.cells #[.int .u64 (rh : Int), .int .u64 (rl : Int)] 24)).alloc (.cells #[.int .u64 (th : Int), .int .u64 (tl : Int)] 24)) w5.heap.size rh rl := (Holds2.new2 rfl).alloc _
  have F9 : Holds2 ((w5.alloc (.cells #[.int .u64 (rh : Int), .int .u64 (rl : Int)] 24)).alloc (.cells #[.int .u64 (th : Int), .int .u64 (tl : Int)] 24)) (w5.heap.size + 1) th tl := Holds2.new2 (by simp)
  have B6 := balloc (balloc B5 (.cells #[.int .u64 (rh : Int), .int .u64 (rl : Int)] 24)) (.cells #[.int .u64 (th : Int), .int .u64 (tl : Int)] 24)
  clear E0 E1 E2 E3 E4 E5 E6 E7 B5
  have c1 : decide (1 < (o : Int)) = false := by simp; omega
  have c2 : decide (1 < (u : Int)) = false := by simp; omega
  have c3 : decide (1 < (p : Int)) = false := by simp; omega
  have c4 : decide (1 < (v : Int)) = false := by simp; omega
  have hz := dg_len_zero (nv ah al)
  have Z := Lib.hid (fun W : World => zero_any ah al W)
  generalize decide (nv ah al = 0) = zb at *
  have q1 := Lib.hid (show nv sh sl + o * B128 = nv ah al + nv bh bl from by have := Q1.out; rw [Nat.add_zero] at this; exact this)
  have q2 := Lib.hid (show nv mh ml + nv bh bl = nv ah al + u * B128 from by have := Q2.out; rw [Nat.add_zero] at this; exact this)
  have q3 := Lib.hid (show nv2 ph pl qh ql + p * (B128 * B128) = nv2 ah al ch cl + nv2 bh bl dh dl from Q3.out)
  have q4 := Lib.hid (show nv2 rh rl th tl + nv2 bh bl dh dl = nv2 ah al ch cl + v * (B128 * B128) from Q4.out)
  clear Q1 Q2 Q3 Q4
  go_upto_region 7 with fail
  generalize (w5.alloc (.cells #[.int .u64 (rh : Int), .int .u64 (rl : Int)] 24)).alloc (.cells #[.int .u64 (th : Int), .int .u64 (tl : Int)] 24) = W0 at *
  obtain ⟨x0a, x0b, _, _, _⟩ := F0
  obtain ⟨x1a, x1b, _, _, _⟩ := F1
  obtain ⟨x2a, x2b, _, _, _⟩ := F2
  obtain ⟨x3a, x3b, _, _, _⟩ := F3
  obtain ⟨x4a, x4b, _, _, _⟩ := F4
  obtain ⟨x5a, x5b, _, _, _⟩ := F5
  obtain ⟨x6a, x6b, _, _, _⟩ := F6
  obtain ⟨x7a, x7b, _, _, _⟩ := F7
  obtain ⟨x8a, x8b, _, _, _⟩ := F8
  obtain ⟨x9a, x9b, _, _, _⟩ := F9
  have HB6 := Lib.hid B6
  clear B6
  go_cut [99] (fun t W => t = .bool false ∧ Below w.heap.size w W ∧ W.cell? ⟨w.heap.size, 0, none⟩ = some (.int .u64 (ah : Int)) ∧ W.cell? ⟨w.heap.size, 1, none⟩ = some (.int .u64 (al : Int)) ∧ W.cell? ⟨w.heap.size + 1, 0, none⟩ = some (.int .u64 (bh : Int)) ∧ W.cell? ⟨w.heap.size + 1, 1, none⟩ = some (.int .u64 (bl : Int)) ∧ W.cell? ⟨w.heap.size + 1 + 1, 0, none⟩ = some (.int .u64 (ch : Int)) ∧ W.cell? ⟨w.heap.size + 1 + 1, 1, none⟩ = some (.int .u64 (cl : Int)) ∧ W.cell? ⟨w.heap.size + 1 + 1 + 1, 0, none⟩ = some (.int .u64 (dh : Int)) ∧ W.cell? ⟨w.heap.size + 1 + 1 + 1, 1, none⟩ = some (.int .u64 (dl : Int)) ∧ W.cell? ⟨w2.heap.size, 0, none⟩ = some (.int .u64 (sh : Int)) ∧ W.cell? ⟨w2.heap.size, 1, none⟩ = some (.int .u64 (sl : Int)) ∧ W.cell? ⟨w3.heap.size, 0, none⟩ = some (.int .u64 (mh : Int)) ∧ W.cell? ⟨w3.heap.size, 1, none⟩ = some (.int .u64 (ml : Int)) ∧ W.cell? ⟨w4.heap.size, 0, none⟩ = some (.int .u64 (ph : Int)) ∧ W.cell? ⟨w4.heap.size, 1, none⟩ = some (.int .u64 (pl : Int)) ∧ W.cell? ⟨w4.heap.size + 1, 0, none⟩ = some (.int .u64 (qh : Int)) ∧ W.cell? ⟨w4.heap.size + 1, 1, none⟩ = some (.int .u64 (ql : Int)) ∧ W.cell? ⟨w5.heap.size, 0, none⟩ = some (.int .u64 (rh : Int)) ∧ W.cell? ⟨w5.heap.size, 1, none⟩ = some (.int .u64 (rl : Int)) ∧ W.cell? ⟨w5.heap.size + 1, 0, none⟩ = some (.int .u64 (th : Int)) ∧ W.cell? ⟨w5.heap.size + 1, 1, none⟩ = some (.int .u64 (tl : Int)))
  case first =>
    go_region_held3 (fun w' => w'.cell? ⟨w.heap.size, 0, none⟩ = some (.int .u64 (ah : Int)) ∧ w'.cell? ⟨w.heap.size, 1, none⟩ = some (.int .u64 (al : Int)) ∧ w'.cell? ⟨w.heap.size + 1, 0, none⟩ = some (.int .u64 (bh : Int)) ∧ w'.cell? ⟨w.heap.size + 1, 1, none⟩ = some (.int .u64 (bl : Int)) ∧ w'.cell? ⟨w.heap.size + 1 + 1, 0, none⟩ = some (.int .u64 (ch : Int)) ∧ w'.cell? ⟨w.heap.size + 1 + 1, 1, none⟩ = some (.int .u64 (cl : Int)) ∧ w'.cell? ⟨w.heap.size + 1 + 1 + 1, 0, none⟩ = some (.int .u64 (dh : Int)) ∧ w'.cell? ⟨w.heap.size + 1 + 1 + 1, 1, none⟩ = some (.int .u64 (dl : Int)) ∧ w'.cell? ⟨w2.heap.size, 0, none⟩ = some (.int .u64 (sh : Int)) ∧ w'.cell? ⟨w2.heap.size, 1, none⟩ = some (.int .u64 (sl : Int)) ∧ w'.cell? ⟨w3.heap.size, 0, none⟩ = some (.int .u64 (mh : Int)) ∧ w'.cell? ⟨w3.heap.size, 1, none⟩ = some (.int .u64 (ml : Int)) ∧ w'.cell? ⟨w4.heap.size, 0, none⟩ = some (.int .u64 (ph : Int)) ∧ w'.cell? ⟨w4.heap.size, 1, none⟩ = some (.int .u64 (pl : Int)) ∧ w'.cell? ⟨w4.heap.size + 1, 0, none⟩ = some (.int .u64 (qh : Int)) ∧ w'.cell? ⟨w4.heap.size + 1, 1, none⟩ = some (.int .u64 (ql : Int)) ∧ w'.cell? ⟨w5.heap.size, 0, none⟩ = some (.int .u64 (rh : Int)) ∧ w'.cell? ⟨w5.heap.size, 1, none⟩ = some (.int .u64 (rl : Int)) ∧ w'.cell? ⟨w5.heap.size + 1, 0, none⟩ = some (.int .u64 (th : Int)) ∧ w'.cell? ⟨w5.heap.size + 1, 1, none⟩ = some (.int .u64 (tl : Int)))
      (first | (with_reducible assumption) | exact keep20 (by with_reducible assumption) (by with_reducible assumption) | exact ⟨x0a, x0b, x1a, x1b, x2a, x2b, x3a, x3b, x4a, x4b, x5a, x5b, x6a, x6b, x7a, x7b, x8a, x8b, x9a, x9b⟩)
      (first
        | (go_at_call 14; refine (cmp_any ah al bh bl k1 k2 _).mono ?_; rintro e wX ⟨rfl, hbX⟩)
        | (go_at_call 16; refine (nN _ _ ?_ _).mono ?_; (with_reducible assumption); rintro e wX ⟨vA, vC, rfl, RN, hbX⟩)
        | (go_at_call 15; refine Calls.mono (nCmp _ _ (m := ?_) (n := ?_) _ ?_ ?_) ?_; rotate_left 2; (repeat' (first | (with_reducible assumption) | (with_reducible refine Num.drew ?_) | (with_reducible refine Num.alloc ?_ _) | (with_reducible refine Num.below ?_ (by with_reducible assumption)))); (repeat' (first | (with_reducible assumption) | (with_reducible refine Num.drew ?_) | (with_reducible refine Num.alloc ?_ _) | (with_reducible refine Num.below ?_ (by with_reducible assumption)))); rintro e wX ⟨rfl, hbX⟩)
        | (go_at_call 17; refine (cmp2_any ah al ch cl bh bl dh dl k1 k3 k2 k4 _).mono ?_; rintro e wX ⟨rfl, hbX⟩)
        | (go_at_call 18; refine (nTwo _ _ _ _ ?_ ?_ _).mono ?_; (with_reducible assumption); assumption; rintro e wX ⟨vA, vC, rfl, RN, hbX⟩)
        | (go_at_call 19; refine (Z.out _).mono ?_; rintro e wX ⟨rfl, hbX⟩))
    all_goals
      go_wp2_with fail
      go_meet
      case rel =>
        refine ⟨rfl, ?_, by with_reducible assumption⟩
        repeat' (first | (with_reducible exact HB6.out) | (with_reducible refine Below.drew ?_) | (with_reducible refine balloc ?_ _) | (with_reducible refine bstep ?_ (by with_reducible assumption)))
  case rest =>
    clear x0a x0b x1a x1b x2a x2b x3a x3b x4a x4b x5a x5b x6a x6b x7a x7b x8a x8b x9a x9b hz Z HB6
    obtain ⟨rfl, HB, x0a, x0b, x1a, x1b, x2a, x2b, x3a, x3b, x4a, x4b, x5a, x5b, x6a, x6b, x7a, x7b, x8a, x8b, x9a, x9b⟩ := hcut
    have HB7 := Lib.hid HB
    clear HB
    go_wp2
    go_region_held3 (fun w' => w'.cell? ⟨w.heap.size, 0, none⟩ = some (.int .u64 (ah : Int)) ∧ w'.cell? ⟨w.heap.size, 1, none⟩ = some (.int .u64 (al : Int)) ∧ w'.cell? ⟨w.heap.size + 1, 0, none⟩ = some (.int .u64 (bh : Int)) ∧ w'.cell? ⟨w.heap.size + 1, 1, none⟩ = some (.int .u64 (bl : Int)) ∧ w'.cell? ⟨w.heap.size + 1 + 1, 0, none⟩ = some (.int .u64 (ch : Int)) ∧ w'.cell? ⟨w.heap.size + 1 + 1, 1, none⟩ = some (.int .u64 (cl : Int)) ∧ w'.cell? ⟨w.heap.size + 1 + 1 + 1, 0, none⟩ = some (.int .u64 (dh : Int)) ∧ w'.cell? ⟨w.heap.size + 1 + 1 + 1, 1, none⟩ = some (.int .u64 (dl : Int)) ∧ w'.cell? ⟨w2.heap.size, 0, none⟩ = some (.int .u64 (sh : Int)) ∧ w'.cell? ⟨w2.heap.size, 1, none⟩ = some (.int .u64 (sl : Int)) ∧ w'.cell? ⟨w3.heap.size, 0, none⟩ = some (.int .u64 (mh : Int)) ∧ w'.cell? ⟨w3.heap.size, 1, none⟩ = some (.int .u64 (ml : Int)) ∧ w'.cell? ⟨w4.heap.size, 0, none⟩ = some (.int .u64 (ph : Int)) ∧ w'.cell? ⟨w4.heap.size, 1, none⟩ = some (.int .u64 (pl : Int)) ∧ w'.cell? ⟨w4.heap.size + 1, 0, none⟩ = some (.int .u64 (qh : Int)) ∧ w'.cell? ⟨w4.heap.size + 1, 1, none⟩ = some (.int .u64 (ql : Int)) ∧ w'.cell? ⟨w5.heap.size, 0, none⟩ = some (.int .u64 (rh : Int)) ∧ w'.cell? ⟨w5.heap.size, 1, none⟩ = some (.int .u64 (rl : Int)) ∧ w'.cell? ⟨w5.heap.size + 1, 0, none⟩ = some (.int .u64 (th : Int)) ∧ w'.cell? ⟨w5.heap.size + 1, 1, none⟩ = some (.int .u64 (tl : Int)))
      (first | (with_reducible assumption) | exact keep20 (by with_reducible assumption) (by with_reducible assumption) | exact ⟨x0a, x0b, x1a, x1b, x2a, x2b, x3a, x3b, x4a, x4b, x5a, x5b, x6a, x6b, x7a, x7b, x8a, x8b, x9a, x9b⟩)
      (first
        | (go_at_call 16; refine (nN _ _ ?_ _).mono ?_; (with_reducible assumption); rintro e wX ⟨vA, vC, rfl, RN, hbX⟩)
        | (go_at_call 18; refine (nTwo _ _ _ _ ?_ ?_ _).mono ?_; (with_reducible assumption); assumption; rintro e wX ⟨vA, vC, rfl, RN, hbX⟩)
        | (go_at_call 21; refine Calls.mono (nAdd _ _ (m := ?_) (n := ?_) _ ?_ ?_) ?_; rotate_left 2; (repeat' (first | (with_reducible assumption) | (with_reducible refine Num.drew ?_) | (with_reducible refine Num.alloc ?_ _) | (with_reducible refine Num.below ?_ (by with_reducible assumption)))); (repeat' (first | (with_reducible assumption) | (with_reducible refine Num.drew ?_) | (with_reducible refine Num.alloc ?_ _) | (with_reducible refine Num.below ?_ (by with_reducible assumption)))); rintro e wX ⟨vA, vC, rfl, RN, hbX⟩)
        | (go_at_call 22; (with_reducible refine (nOver128 _ ?_ _).mono ?_); (with_reducible assumption); rintro e wX ⟨vA, vC, rfl, RN, hbX⟩)
        | (go_at_call 22; (with_reducible refine (nOver256 _ ?_ _).mono ?_); (with_reducible assumption); rintro e wX ⟨vA, vC, rfl, RN, hbX⟩)
        | (go_at_call 20; refine Calls.mono (nSame _ _ (m := ?_) (n := ?_) _ ?_ ?_ ?_) ?_; rotate_left 2; (repeat' (first | (with_reducible assumption) | (with_reducible refine NumS.below ?_ (by with_reducible assumption)))); (repeat' (first | (with_reducible assumption) | (with_reducible refine NumS.below ?_ (by with_reducible assumption)))); (first | (with_reducible exact q1.out) | (with_reducible exact q2.out) | (with_reducible exact q3.out) | (with_reducible exact q4.out)); rintro e wX ⟨rfl, hbX⟩))
    all_goals
      go_wp2
      go_ret
      refine ⟨rfl, ?_⟩
      repeat' (first | (with_reducible exact HB7.out) | (with_reducible refine Below.drew ?_) | (with_reducible refine balloc ?_ _) | (with_reducible refine bstep ?_ (by with_reducible assumption)))
end Go.Proofs.YtcimickajocdnaaDoor
