/-
  The document's examples of layer 2 (awake of the laws), as a contract of the call; what Add and Sub answer is handed in.
-/
import Derived.Test.YteboohejlkionaaDoorAc
import Derived.Test.YteboohejlkionaaDoorE9
import Derived.Test.YteboohejlkionaaDoorEw
import Derived.Test.YteboohejlkionaaDoorPe
import Derived.Deep.RegionHeld3
namespace Go.Proofs.YteboohejlkionaaDoor
open Go.RowKit

theorem most34 {th tl mh ml c : Nat} (P : TenF 34 th tl) (S : SubF th tl 0 1 0 mh ml c) : nv mh ml = 9999999999999999999999999999999999 := by
  obtain ⟨w1, c1, e⟩ := S
  have lt := nv_lt w1
  rw [P.2, nv01] at e
  have t : c = 0 ∨ c = 1 := by omega
  rcases t with rfl | rfl
  · have q : (10 : Nat) ^ 34 = 10000000000000000000000000000000000 := by decide
    rw [q, Nat.zero_mul] at e
    omega
  · exfalso
    rw [Nat.one_mul] at e
    have q : (10 : Nat) ^ 34 ≥ 2 := by decide
    omega

set_option maxHeartbeats 400000 in
/-- A small number, its words as integers. -/
theorem of_decI (c : Nat) (x : Int) (w : World) (c' : Int) (hc : c' = (c : Int)) : Calls Tryd.prog 32 #[.int .u64 c', .int .i64 x] w fun e w' => e = .returned (.agg #[.bool false, .int .u64 0, .int .u64 c', .int .i64 x]) ∧ Below w.heap.size w w' := by
  subst hc
  refine (of_dec c x w).mono ?_
  rintro e w1 ⟨n, h, l, x', ⟨rfl, rfl, rfl, rfl⟩, rfl, hb⟩
  exact ⟨rfl, hb⟩
theorem keepCell1 {W w' : World} {g o : Nat} {v : Value} (h : W.cell? ⟨g, o, none⟩ = some v) (hb : Below W.heap.size W w') : w'.cell? ⟨g, o, none⟩ = some v := by
  refine (hb.cell (p := ⟨g, o, none⟩) ?_).trans h
  rcases Nat.lt_or_ge g W.heap.size with x | x
  · exact x
  · rw [World.cell?, Array.getElem?_eq_none x] at h; cases h
theorem keepS18 {W w' : World} {g0 o0 g1 o1 g2 o2 g3 o3 g4 o4 g5 o5 g6 o6 g7 o7 g8 o8 g9 o9 g10 o10 g11 o11 g12 o12 g13 o13 g14 o14 g15 o15 g16 o16 g17 o17 : Nat} {v0 v1 v2 v3 v4 v5 v6 v7 v8 v9 v10 v11 v12 v13 v14 v15 v16 v17 : Value} (hb : Below W.heap.size W w') (h : W.cell? ⟨g0, o0, none⟩ = some v0 ∧ W.cell? ⟨g1, o1, none⟩ = some v1 ∧ W.cell? ⟨g2, o2, none⟩ = some v2 ∧ W.cell? ⟨g3, o3, none⟩ = some v3 ∧ W.cell? ⟨g4, o4, none⟩ = some v4 ∧ W.cell? ⟨g5, o5, none⟩ = some v5 ∧ W.cell? ⟨g6, o6, none⟩ = some v6 ∧ W.cell? ⟨g7, o7, none⟩ = some v7 ∧ W.cell? ⟨g8, o8, none⟩ = some v8 ∧ W.cell? ⟨g9, o9, none⟩ = some v9 ∧ W.cell? ⟨g10, o10, none⟩ = some v10 ∧ W.cell? ⟨g11, o11, none⟩ = some v11 ∧ W.cell? ⟨g12, o12, none⟩ = some v12 ∧ W.cell? ⟨g13, o13, none⟩ = some v13 ∧ W.cell? ⟨g14, o14, none⟩ = some v14 ∧ W.cell? ⟨g15, o15, none⟩ = some v15 ∧ W.cell? ⟨g16, o16, none⟩ = some v16 ∧ W.cell? ⟨g17, o17, none⟩ = some v17) : w'.cell? ⟨g0, o0, none⟩ = some v0 ∧ w'.cell? ⟨g1, o1, none⟩ = some v1 ∧ w'.cell? ⟨g2, o2, none⟩ = some v2 ∧ w'.cell? ⟨g3, o3, none⟩ = some v3 ∧ w'.cell? ⟨g4, o4, none⟩ = some v4 ∧ w'.cell? ⟨g5, o5, none⟩ = some v5 ∧ w'.cell? ⟨g6, o6, none⟩ = some v6 ∧ w'.cell? ⟨g7, o7, none⟩ = some v7 ∧ w'.cell? ⟨g8, o8, none⟩ = some v8 ∧ w'.cell? ⟨g9, o9, none⟩ = some v9 ∧ w'.cell? ⟨g10, o10, none⟩ = some v10 ∧ w'.cell? ⟨g11, o11, none⟩ = some v11 ∧ w'.cell? ⟨g12, o12, none⟩ = some v12 ∧ w'.cell? ⟨g13, o13, none⟩ = some v13 ∧ w'.cell? ⟨g14, o14, none⟩ = some v14 ∧ w'.cell? ⟨g15, o15, none⟩ = some v15 ∧ w'.cell? ⟨g16, o16, none⟩ = some v16 ∧ w'.cell? ⟨g17, o17, none⟩ = some v17 :=
  ⟨keepCell1 h.1 hb, keepCell1 h.2.1 hb, keepCell1 h.2.2.1 hb, keepCell1 h.2.2.2.1 hb, keepCell1 h.2.2.2.2.1 hb, keepCell1 h.2.2.2.2.2.1 hb, keepCell1 h.2.2.2.2.2.2.1 hb, keepCell1 h.2.2.2.2.2.2.2.1 hb, keepCell1 h.2.2.2.2.2.2.2.2.1 hb, keepCell1 h.2.2.2.2.2.2.2.2.2.1 hb, keepCell1 h.2.2.2.2.2.2.2.2.2.2.1 hb, keepCell1 h.2.2.2.2.2.2.2.2.2.2.2.1 hb, keepCell1 h.2.2.2.2.2.2.2.2.2.2.2.2.1 hb, keepCell1 h.2.2.2.2.2.2.2.2.2.2.2.2.2.1 hb, keepCell1 h.2.2.2.2.2.2.2.2.2.2.2.2.2.2.1 hb, keepCell1 h.2.2.2.2.2.2.2.2.2.2.2.2.2.2.2.1 hb, keepCell1 h.2.2.2.2.2.2.2.2.2.2.2.2.2.2.2.2.1 hb, keepCell1 h.2.2.2.2.2.2.2.2.2.2.2.2.2.2.2.2.2 hb⟩

set_option maxRecDepth 100000 in
set_option maxHeartbeats 8000000 in
theorem awake2 (AD : AddC) (SB : SubC) (w : World) (ht : Tab w) : Calls Tryd.prog 9 #[] w (RetB true w) := by
  have HT := Lib.hid ht
  have C1 := Lib.hid (AD false 0 15 (-1) false 0 250 (-2) (ww1 (by decide)) (ww1 (by decide)) (by decide) (by decide))
  rw [nv01, nv01, ex_add] at C1
  have C2 := Lib.hid (mulD_any false 0 120 (-2) false 0 3 0 (ww1 (by decide)) (ww1 (by decide)) (by decide) (by decide) (by decide) (by decide))
  rw [nv01, nv01, ex_mul] at C2
  have C7 := Lib.hid (SB false 0 1 0 false 0 100 (-2) (ww1 (by decide)) (ww1 (by decide)) (by decide) (by decide))
  rw [nv01, nv01, show (!false && !decide ((100 : Nat) = 0)) = true from rfl, ex_sub] at C7
  have C8 := Lib.hid (whole_up 0 25 2 (ww1 (by decide)) (by decide) (by decide) (by decide))
  rw [nv01] at C8
  have AD5 := Lib.hid AD
  clear ht AD SB
  go_enter Tryd.func9, Tryd.ntmps9
  go_wp2_with fail
  refine (of_dec 15 (-1) _).mono ?_
  rintro e w1 ⟨n, h, l, x, ⟨rfl, rfl, rfl, rfl⟩, rfl, B1⟩
  go_wp2_with fail
  refine (of_dec 250 (-2) _).mono ?_
  rintro e w2 ⟨n, h, l, x, ⟨rfl, rfl, rfl, rfl⟩, rfl, hb2⟩
  replace B1 := bstep B1 hb2
  clear hb2
  go_wp2_with fail
  refine (C1.out _ (HT.out.below B1)).mono ?_
  rintro e w3 ⟨n1, h1, l1, x1, ok1, N1, rfl, hb3⟩
  obtain ⟨rfl, rfl, rfl, rfl, rfl⟩ := numO_small (by decide) N1
  replace B1 := bstep B1 hb3
  clear hb3 N1 C1
  have P1 := Lib.hid (show HoldsD (w3.alloc (.cells #[.bool false, .int .u64 0, .int .u64 400, .int .i64 (-2)] 28)) w3.heap.size false 0 400 (-2) from by simp [HoldsD, go_sem])
  replace B1 := ballD1 B1 (.cells #[.bool false, .int .u64 0, .int .u64 400, .int .i64 (-2)] 28)
  go_wp2_with fail
  refine (of_dec 120 (-2) _).mono ?_
  rintro e w4 ⟨n, h, l, x, ⟨rfl, rfl, rfl, rfl⟩, rfl, hb4⟩
  replace B1 := bstep B1 hb4
  replace P1 := Lib.hid (P1.out.below hb4)
  clear hb4
  go_wp2_with fail
  refine (of_dec 3 0 _).mono ?_
  rintro e w5 ⟨n, h, l, x, ⟨rfl, rfl, rfl, rfl⟩, rfl, hb5⟩
  replace B1 := bstep B1 hb5
  replace P1 := Lib.hid (P1.out.below hb5)
  clear hb5
  go_wp2_with fail
  refine (C2.out _ (HT.out.below B1)).mono ?_
  rintro e w6 ⟨n2, h2, l2, x2, ok2, N2, rfl, hb6⟩
  obtain ⟨rfl, rfl, rfl, rfl, rfl⟩ := numO_small (by decide) N2
  replace B1 := bstep B1 hb6
  replace P1 := Lib.hid (P1.out.below hb6)
  clear hb6 N2 C2
  have P3 := Lib.hid (show HoldsD (w6.alloc (.cells #[.bool false, .int .u64 0, .int .u64 360, .int .i64 (-2)] 28)) w6.heap.size false 0 360 (-2) from by simp [HoldsD, go_sem])
  replace P1 := Lib.hid (P1.out.alloc (.cells #[.bool false, .int .u64 0, .int .u64 360, .int .i64 (-2)] 28))
  replace B1 := ballD1 B1 (.cells #[.bool false, .int .u64 0, .int .u64 360, .int .i64 (-2)] 28)
  go_wp2_with fail
  refine (ten_yes 34 (by decide) _ (HT.out.below B1)).mono ?_
  rintro e w7 ⟨th, tl, P, rfl, hb7⟩
  have TN := Lib.hid P
  replace B1 := bstep B1 hb7
  replace P1 := Lib.hid (P1.out.below hb7)
  replace P3 := Lib.hid (P3.out.below hb7)
  clear hb7 P
  go_upto_region 4 with fail
  have P5 := Lib.hid (Holds2.new2 rfl : Holds2 (w7.alloc (.cells #[.int .u64 (th : Int), .int .u64 (tl : Int)] 24)) w7.heap.size th tl)
  replace P1 := Lib.hid (P1.out.alloc (.cells #[.int .u64 (th : Int), .int .u64 (tl : Int)] 24))
  replace P3 := Lib.hid (P3.out.alloc (.cells #[.int .u64 (th : Int), .int .u64 (tl : Int)] 24))
  replace B1 := ballD1 B1 (.cells #[.int .u64 (th : Int), .int .u64 (tl : Int)] 24)
  generalize w7.alloc (.cells #[.int .u64 (th : Int), .int .u64 (tl : Int)] 24) = V1 at *
  have SU := Lib.hid (sub_any th tl 0 1 TN.out.1 (ww1 (by decide)))
  obtain ⟨a1, a2, -, -, a5⟩ := P5.out
  have s3 : w3.heap.size < V1.heap.size := P1.out.2.2
  have s6 : w6.heap.size < V1.heap.size := P3.out.2.2
  have sw : w.heap.size ≤ V1.heap.size := B1.size
  have s7 : w7.heap.size < V1.heap.size + 1 := by omega
  have s8 : V1.heap.size < V1.heap.size + 1 + 1 := by omega
  go_cut [7] (fun p W => ∃ g mh ml : Nat, p = .pointer (some ⟨g, 0, none⟩) ∧ WW mh ml ∧ nv mh ml = 9999999999999999999999999999999999 ∧ Holds2 W g mh ml ∧ HoldsD W w3.heap.size false 0 400 (-2) ∧ HoldsD W w6.heap.size false 0 360 (-2) ∧ Below w.heap.size w W)
  case first =>
    go_region_with
      (first
        | (go_at_call 35; refine (of_any 1 _).mono ?_; rintro e w' ⟨rfl, o1, rfl⟩)
        | (go_at_call 34; refine (SU.out _).mono ?_; rintro e w8 ⟨mh, ml, c, S, rfl, hb8⟩;
           have B8 := (bstep (w := w) (by repeat' (first | (with_reducible exact B1) | (with_reducible refine ballD1 ?_ _) | (with_reducible refine Below.drew ?_))) hb8 : Below w.heap.size w w8);
           have R1 := Lib.hid (HoldsD.below (by repeat' (first | (with_reducible exact P1.out) | (with_reducible refine HoldsD.alloc ?_ _) | (with_reducible refine HoldsD.drew ?_))) hb8 : HoldsD w8 w3.heap.size false 0 400 (-2));
           have R3 := Lib.hid (HoldsD.below (by repeat' (first | (with_reducible exact P3.out) | (with_reducible refine HoldsD.alloc ?_ _) | (with_reducible refine HoldsD.drew ?_))) hb8 : HoldsD w8 w6.heap.size false 0 360 (-2));
           obtain ⟨hc8, hf8⟩ := bcell hb8; have sz := hb8.size; simp only [World.size_alloc, World.size_drew] at sz; clear hb8))
    all_goals
      have SS := Lib.hid S
      clear S
      go_wp2
      go_meet
      case rel =>
        refine ⟨_, mh, ml, rfl, SS.out.1, most34 TN.out SS.out, ?_, ?_, ?_, ?_⟩
        · first | (exact Holds2.new2 rfl) | (simp [Holds2, go_sem, *]; done) | (simp [Holds2, go_sem, *]; omega)
        · repeat' (first | (with_reducible exact R1.out) | (with_reducible refine HoldsD.alloc ?_ _) | (with_reducible refine HoldsD.drew ?_) | (with_reducible refine HoldsD.far ?_ ?_ _) | (show _ ≠ _; (try dsimp only); omega))
        · repeat' (first | (with_reducible exact R3.out) | (with_reducible refine HoldsD.alloc ?_ _) | (with_reducible refine HoldsD.drew ?_) | (with_reducible refine HoldsD.far ?_ ?_ _) | (show _ ≠ _; (try dsimp only); omega))
        · clear hc8 hf8
          go_grown
  case rest =>
  obtain ⟨gm, mh, ml, rfl, m1, m2, A1, A2, A3, B2⟩ := hcut
  have P7 := Lib.hid A1
  replace P1 := Lib.hid A2
  replace P3 := Lib.hid A3
  have C5 := Lib.hid (AD5.out false mh ml 0 false 0 5 (-1) m1 (ww1 (by decide)) (by rw [m2]; decide) (by decide))
  rw [m2, nv01, ex_up] at C5
  clear A1 A2 A3 a1 a2 a5 s3 s6 sw s7 s8 B1 P5 SU TN m1 m2 AD5
  generalize wc = V2 at *
  go_upto_region 5 with fail
  obtain ⟨a1, a2, -, -, a5⟩ := P7.out
  have s3 : w3.heap.size < V2.heap.size := P1.out.2.2
  have s6 : w6.heap.size < V2.heap.size := P3.out.2.2
  have sw : w.heap.size ≤ V2.heap.size := B2.size
  have s8 : V2.heap.size < V2.heap.size + 1 := by omega
  have s9 : gm < V2.heap.size + 1 := by omega
  go_cut [9, 10] (fun p q W => ∃ g ch cl : Nat, p = .pointer (some ⟨g, 0, none⟩) ∧ q = .bool true ∧ WW ch cl ∧ nv ch cl = 1000000000000000000000000000000000 ∧ HoldsD W g false ch cl 1 ∧ HoldsD W w3.heap.size false 0 400 (-2) ∧ HoldsD W w6.heap.size false 0 360 (-2) ∧ Below w.heap.size w W)
  case first =>
    go_region_with
      (first
        | (go_at_call 32; refine (of_dec 5 (-1) _).mono ?_; rintro e w9 ⟨n, h, l, x, ⟨rfl, rfl, rfl, rfl⟩, rfl, hb9⟩;
           have B9 := (bstep (w := w) (by repeat' (first | (with_reducible exact B2) | (with_reducible refine ballD1 ?_ _) | (with_reducible refine Below.drew ?_))) hb9 : Below w.heap.size w w9);
           have R1 := Lib.hid (HoldsD.below (by repeat' (first | (with_reducible exact P1.out) | (with_reducible refine HoldsD.alloc ?_ _) | (with_reducible refine HoldsD.drew ?_))) hb9 : HoldsD w9 w3.heap.size false 0 400 (-2));
           have R3 := Lib.hid (HoldsD.below (by repeat' (first | (with_reducible exact P3.out) | (with_reducible refine HoldsD.alloc ?_ _) | (with_reducible refine HoldsD.drew ?_))) hb9 : HoldsD w9 w6.heap.size false 0 360 (-2));
           obtain ⟨hc9, hf9⟩ := bcell hb9; have sz9 := hb9.size; (try simp only [World.size_alloc, World.size_drew] at sz9);
           have R7 := Lib.hid (Holds2.below (by repeat' (first | (with_reducible exact P7.out) | (with_reducible refine Holds2.alloc ?_ _) | (with_reducible refine Holds2.drew ?_))) hb9 : Holds2 w9 gm mh ml); obtain ⟨y4, y5, -, -, y1⟩ := R7.out; have y2 : gm < w9.heap.size + 1 := (by omega); (try (have y3 : V2.heap.size < w9.heap.size := (by omega))); clear hb9)
        | (go_at_call 24; refine (C5.out _ (HT.out.below (by repeat' (first | (with_reducible exact B9) | (with_reducible refine ballD1 ?_ _) | (with_reducible refine Below.drew ?_))))).mono ?_; rintro e w10 ⟨n5, ch, cl, x5, ok5, N5, rfl, hb10⟩;
           obtain ⟨k1, rfl, rfl, k2, rfl⟩ := N5;
           have B10 := (bstep (w := w) (by repeat' (first | (with_reducible exact B9) | (with_reducible refine ballD1 ?_ _) | (with_reducible refine Below.drew ?_))) hb10 : Below w.heap.size w w10);
           have T1 := Lib.hid (HoldsD.below (by repeat' (first | (with_reducible exact R1.out) | (with_reducible refine HoldsD.alloc ?_ _) | (with_reducible refine HoldsD.drew ?_))) hb10 : HoldsD w10 w3.heap.size false 0 400 (-2));
           have T3 := Lib.hid (HoldsD.below (by repeat' (first | (with_reducible exact R3.out) | (with_reducible refine HoldsD.alloc ?_ _) | (with_reducible refine HoldsD.drew ?_))) hb10 : HoldsD w10 w6.heap.size false 0 360 (-2));
           have KK := Lib.hid (And.intro k1 k2);
           obtain ⟨hc10, hf10⟩ := bcell hb10; have sz10 := hb10.size; (try simp only [World.size_alloc] at sz10); clear hb10 k1 k2))
    all_goals
      go_wp2
      go_meet
      case rel =>
        refine ⟨_, ch, cl, rfl, rfl, KK.out.1, KK.out.2, ?_, ?_, ?_, ?_⟩
        · first | (simp [HoldsD, go_sem]; done) | (simp [HoldsD, go_sem, *]; done) | (simp [HoldsD, go_sem, *]; omega)
        · repeat' (first | (with_reducible exact T1.out) | (with_reducible refine HoldsD.alloc ?_ _) | (with_reducible refine HoldsD.drew ?_) | (with_reducible refine HoldsD.far ?_ ?_ _) | (show _ ≠ _; (try dsimp only); omega))
        · repeat' (first | (with_reducible exact T3.out) | (with_reducible refine HoldsD.alloc ?_ _) | (with_reducible refine HoldsD.drew ?_) | (with_reducible refine HoldsD.far ?_ ?_ _) | (show _ ≠ _; (try dsimp only); omega))
        · clear hc9 hf9 hc10 hf10
          go_grown
  case rest =>
  obtain ⟨g9, ch, cl, rfl, rfl, m1, m2, A0, A1, A2, B3⟩ := hcut
  have HC9 := Lib.hid (And.intro m1 m2)
  have P9 := Lib.hid A0
  replace P1 := Lib.hid A1
  replace P3 := Lib.hid A2
  clear A0 A1 A2 m1 m2 a1 a2 a5 s3 s6 sw s8 s9 B2 P7 C5
  generalize wc = V3 at *
  go_wp2_with fail
  refine (ten_yes 33 (by decide) _ (HT.out.below B3)).mono ?_
  rintro e w11 ⟨rh, rl, P, rfl, hb11⟩
  obtain ⟨e1, e2⟩ := nv_inj P.1 HC9.out.1 (P.2.trans (by rw [HC9.out.2]))
  subst e1 e2
  replace B3 := bstep B3 hb11
  replace P1 := Lib.hid (P1.out.below hb11)
  replace P3 := Lib.hid (P3.out.below hb11)
  replace P9 := Lib.hid (P9.out.below hb11)
  clear hb11 P
  have P11 := Lib.hid (Holds2.new2 rfl : Holds2 (w11.alloc (.cells #[.int .u64 (rh : Int), .int .u64 (rl : Int)] 24)) w11.heap.size rh rl)
  replace P1 := Lib.hid (P1.out.alloc (.cells #[.int .u64 (rh : Int), .int .u64 (rl : Int)] 24))
  replace P3 := Lib.hid (P3.out.alloc (.cells #[.int .u64 (rh : Int), .int .u64 (rl : Int)] 24))
  replace P9 := Lib.hid (P9.out.alloc (.cells #[.int .u64 (rh : Int), .int .u64 (rl : Int)] 24))
  replace B3 := ballD1 B3 (.cells #[.int .u64 (rh : Int), .int .u64 (rl : Int)] 24)
  go_wp2_with fail
  refine (of_dec 1 0 _).mono ?_
  rintro e w12 ⟨n, h, l, x, ⟨rfl, rfl, rfl, rfl⟩, rfl, hb12⟩
  replace B3 := bstep B3 hb12
  replace P1 := Lib.hid (P1.out.below hb12)
  replace P3 := Lib.hid (P3.out.below hb12)
  replace P9 := Lib.hid (P9.out.below hb12)
  replace P11 := Lib.hid (P11.out.below hb12)
  clear hb12
  go_wp2_with fail
  refine (of_dec 100 (-2) _).mono ?_
  rintro e w13 ⟨n, h, l, x, ⟨rfl, rfl, rfl, rfl⟩, rfl, hb13⟩
  replace B3 := bstep B3 hb13
  replace P1 := Lib.hid (P1.out.below hb13)
  replace P3 := Lib.hid (P3.out.below hb13)
  replace P9 := Lib.hid (P9.out.below hb13)
  replace P11 := Lib.hid (P11.out.below hb13)
  clear hb13
  go_wp2_with fail
  refine (C7.out _ (HT.out.below B3)).mono ?_
  rintro e w14 ⟨n7, h7, l7, x7, ok7, N7, rfl, hb14⟩
  obtain ⟨rfl, rfl, rfl, rfl, rfl⟩ := numO_small (by decide) N7
  replace B3 := bstep B3 hb14
  replace P1 := Lib.hid (P1.out.below hb14)
  replace P3 := Lib.hid (P3.out.below hb14)
  replace P9 := Lib.hid (P9.out.below hb14)
  replace P11 := Lib.hid (P11.out.below hb14)
  clear hb14 N7 C7
  have P13 := Lib.hid (show HoldsD (w14.alloc (.cells #[.bool false, .int .u64 0, .int .u64 0, .int .i64 (-2)] 28)) w14.heap.size false 0 0 (-2) from by simp [HoldsD, go_sem])
  replace P1 := Lib.hid (P1.out.alloc (.cells #[.bool false, .int .u64 0, .int .u64 0, .int .i64 (-2)] 28))
  replace P3 := Lib.hid (P3.out.alloc (.cells #[.bool false, .int .u64 0, .int .u64 0, .int .i64 (-2)] 28))
  replace P9 := Lib.hid (P9.out.alloc (.cells #[.bool false, .int .u64 0, .int .u64 0, .int .i64 (-2)] 28))
  replace P11 := Lib.hid (P11.out.alloc (.cells #[.bool false, .int .u64 0, .int .u64 0, .int .i64 (-2)] 28))
  replace B3 := ballD1 B3 (.cells #[.bool false, .int .u64 0, .int .u64 0, .int .i64 (-2)] 28)
  go_wp2_with fail
  refine (of_dec 25 2 _).mono ?_
  rintro e w15 ⟨n, h, l, x, ⟨rfl, rfl, rfl, rfl⟩, rfl, hb15⟩
  replace B3 := bstep B3 hb15
  replace P1 := Lib.hid (P1.out.below hb15)
  replace P3 := Lib.hid (P3.out.below hb15)
  replace P9 := Lib.hid (P9.out.below hb15)
  replace P11 := Lib.hid (P11.out.below hb15)
  replace P13 := Lib.hid (P13.out.below hb15)
  clear hb15
  go_wp2_with fail
  refine (C8.out _ (HT.out.below B3)).mono ?_
  rintro e w16 ⟨rfl, hb16⟩
  replace B3 := bstep B3 hb16
  replace P1 := Lib.hid (P1.out.below hb16)
  replace P3 := Lib.hid (P3.out.below hb16)
  replace P9 := Lib.hid (P9.out.below hb16)
  replace P11 := Lib.hid (P11.out.below hb16)
  replace P13 := Lib.hid (P13.out.below hb16)
  clear hb16 C8
  go_upto_region 9 with fail
  have CM0 := cmp_dec false 0 10 (-1) false 0 1 0 (ww1 (by decide)) (ww1 (by decide)) (by decide) (by decide) (by decide) (by decide)
  rw [nv01, nv01, ex_cmp] at CM0
  have CM := Lib.hid (show ∀ w : World, Tab w → Calls Tryd.prog 22 #[.agg #[.bool false, .int .u64 0, .int .u64 10, .int .i64 (-1)], .agg #[.bool false, .int .u64 0, .int .u64 1, .int .i64 0]] w (RetI 0 w) from CM0)
  clear CM0
  generalize w3.heap.size = q1 at *
  generalize w6.heap.size = q3 at *
  generalize w11.heap.size = q11 at *
  generalize w14.heap.size = q13 at *
  obtain ⟨⟨a1, a2, a3, a4⟩, -, -⟩ := P1.out
  obtain ⟨⟨b1, b2, b3, b4⟩, -, -⟩ := P3.out
  obtain ⟨⟨c1, c2, c3, c4⟩, -, -⟩ := P9.out
  obtain ⟨d1, d2, -, -, -⟩ := P11.out
  obtain ⟨⟨f1, f2, f3, f4⟩, -, -⟩ := P13.out
  clear P1 P3 P9 P11 P13 HC9
  go_region_held3 (fun w' => w'.cell? ⟨q1, 0, none⟩ = some (.bool false) ∧ w'.cell? ⟨q1, 1, none⟩ = some (.int .u64 0) ∧ w'.cell? ⟨q1, 2, none⟩ = some (.int .u64 400) ∧ w'.cell? ⟨q1, 3, none⟩ = some (.int .i64 (-2)) ∧ w'.cell? ⟨q3, 0, none⟩ = some (.bool false) ∧ w'.cell? ⟨q3, 1, none⟩ = some (.int .u64 0) ∧ w'.cell? ⟨q3, 2, none⟩ = some (.int .u64 360) ∧ w'.cell? ⟨q3, 3, none⟩ = some (.int .i64 (-2)) ∧ w'.cell? ⟨g9, 0, none⟩ = some (.bool false) ∧ w'.cell? ⟨g9, 1, none⟩ = some (.int .u64 (rh : Int)) ∧ w'.cell? ⟨g9, 2, none⟩ = some (.int .u64 (rl : Int)) ∧ w'.cell? ⟨g9, 3, none⟩ = some (.int .i64 1) ∧ w'.cell? ⟨q11, 0, none⟩ = some (.int .u64 (rh : Int)) ∧ w'.cell? ⟨q11, 1, none⟩ = some (.int .u64 (rl : Int)) ∧ w'.cell? ⟨q13, 0, none⟩ = some (.bool false) ∧ w'.cell? ⟨q13, 1, none⟩ = some (.int .u64 0) ∧ w'.cell? ⟨q13, 2, none⟩ = some (.int .u64 0) ∧ w'.cell? ⟨q13, 3, none⟩ = some (.int .i64 (-2)))
    (first | (with_reducible assumption) | (with_reducible exact keepS18 (bundrew (by with_reducible assumption)) (by with_reducible assumption)) | (with_reducible exact keepS18 (by with_reducible assumption) (by with_reducible assumption)) | exact ⟨a1, a2, a3, a4, b1, b2, b3, b4, c1, c2, c3, c4, d1, d2, f1, f2, f3, f4⟩)
    (first
      | (go_at_call 32; (first | (with_reducible refine (of_decI 400 _ _ 400 rfl).mono ?_) | (with_reducible refine (of_decI 360 _ _ 360 rfl).mono ?_) | (with_reducible refine (of_decI 0 _ _ 0 rfl).mono ?_) | (with_reducible refine (of_decI 10 _ _ 10 rfl).mono ?_) | (with_reducible refine (of_decI 1 _ _ 1 rfl).mono ?_)); rintro e wN ⟨rfl, hbN⟩)
      | (go_at_call 22; (with_reducible refine (CM.out _ ?_).mono ?_); (exact HT.out.below (by repeat' (first | (with_reducible exact B3) | (with_reducible refine Below.drew ?_) | (with_reducible refine bstep ?_ (by with_reducible assumption))))); rintro e wC ⟨rfl, hbC⟩))
  all_goals
    clear a1 a2 a3 a4 b1 b2 b3 b4 c1 c2 c3 c4 d1 d2 f1 f2 f3 f4 CM
    go_wp2
    go_ret
    refine ⟨rfl, ?_⟩
    repeat' (first | (with_reducible exact B3) | (with_reducible refine Below.drew ?_) | (with_reducible refine ballD1 ?_ _) | (with_reducible refine bstep ?_ (by with_reducible assumption)))
end Go.Proofs.YteboohejlkionaaDoor
