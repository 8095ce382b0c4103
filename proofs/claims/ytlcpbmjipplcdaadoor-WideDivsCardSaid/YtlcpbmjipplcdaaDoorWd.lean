/-
  The statement WideDivs, walked: it answers true.
-/
import Derived.Test.YtlcpbmjipplcdaaDoorN
import Derived.Test.YtlcpbmjipplcdaaDoorDe
import Derived.Test.YtlcpbmjipplcdaaDoorSm
namespace Go.Proofs.YtlcpbmjipplcdaaDoor
open Go.RowKit

theorem keepS4 {W w' : World} {g1 o1 g2 o2 g3 o3 g4 o4 : Nat} {v1 v2 v3 v4 : Value} (hb : Below W.heap.size W w') (h : W.cell? ⟨g1, o1, none⟩ = some v1 ∧ W.cell? ⟨g2, o2, none⟩ = some v2 ∧ W.cell? ⟨g3, o3, none⟩ = some v3 ∧ W.cell? ⟨g4, o4, none⟩ = some v4) :
    w'.cell? ⟨g1, o1, none⟩ = some v1 ∧ w'.cell? ⟨g2, o2, none⟩ = some v2 ∧ w'.cell? ⟨g3, o3, none⟩ = some v3 ∧ w'.cell? ⟨g4, o4, none⟩ = some v4 :=
  ⟨keepCell h.1 hb, keepCell h.2.1 hb, keepCell h.2.2.1 hb, keepCell h.2.2.2 hb⟩
theorem keepS6 {W w' : World} {g1 o1 g2 o2 g3 o3 g4 o4 g5 o5 g6 o6 : Nat} {v1 v2 v3 v4 v5 v6 : Value} (hb : Below W.heap.size W w') (h : W.cell? ⟨g1, o1, none⟩ = some v1 ∧ W.cell? ⟨g2, o2, none⟩ = some v2 ∧ W.cell? ⟨g3, o3, none⟩ = some v3 ∧ W.cell? ⟨g4, o4, none⟩ = some v4 ∧ W.cell? ⟨g5, o5, none⟩ = some v5 ∧ W.cell? ⟨g6, o6, none⟩ = some v6) :
    w'.cell? ⟨g1, o1, none⟩ = some v1 ∧ w'.cell? ⟨g2, o2, none⟩ = some v2 ∧ w'.cell? ⟨g3, o3, none⟩ = some v3 ∧ w'.cell? ⟨g4, o4, none⟩ = some v4 ∧ w'.cell? ⟨g5, o5, none⟩ = some v5 ∧ w'.cell? ⟨g6, o6, none⟩ = some v6 :=
  ⟨keepCell h.1 hb, keepCell h.2.1 hb, keepCell h.2.2.1 hb, keepCell h.2.2.2.1 hb, keepCell h.2.2.2.2.1 hb, keepCell h.2.2.2.2.2 hb⟩
theorem keepS8 {W w' : World} {g1 o1 g2 o2 g3 o3 g4 o4 g5 o5 g6 o6 g7 o7 g8 o8 : Nat} {v1 v2 v3 v4 v5 v6 v7 v8 : Value} (hb : Below W.heap.size W w') (h : W.cell? ⟨g1, o1, none⟩ = some v1 ∧ W.cell? ⟨g2, o2, none⟩ = some v2 ∧ W.cell? ⟨g3, o3, none⟩ = some v3 ∧ W.cell? ⟨g4, o4, none⟩ = some v4 ∧ W.cell? ⟨g5, o5, none⟩ = some v5 ∧ W.cell? ⟨g6, o6, none⟩ = some v6 ∧ W.cell? ⟨g7, o7, none⟩ = some v7 ∧ W.cell? ⟨g8, o8, none⟩ = some v8) :
    w'.cell? ⟨g1, o1, none⟩ = some v1 ∧ w'.cell? ⟨g2, o2, none⟩ = some v2 ∧ w'.cell? ⟨g3, o3, none⟩ = some v3 ∧ w'.cell? ⟨g4, o4, none⟩ = some v4 ∧ w'.cell? ⟨g5, o5, none⟩ = some v5 ∧ w'.cell? ⟨g6, o6, none⟩ = some v6 ∧ w'.cell? ⟨g7, o7, none⟩ = some v7 ∧ w'.cell? ⟨g8, o8, none⟩ = some v8 :=
  ⟨keepCell h.1 hb, keepCell h.2.1 hb, keepCell h.2.2.1 hb, keepCell h.2.2.2.1 hb, keepCell h.2.2.2.2.1 hb, keepCell h.2.2.2.2.2.1 hb, keepCell h.2.2.2.2.2.2.1 hb, keepCell h.2.2.2.2.2.2.2 hb⟩

theorem divides {q x r n : Nat} (e : q * x + r = n) (h : r < x) : n / x = q := by
  rw [← e, Nat.add_comm, Nat.add_mul_div_right _ _ (by omega), Nat.div_eq_of_lt h, Nat.zero_add]
theorem leaves {q x r n : Nat} (e : q * x + r = n) (h : r < x) : n % x = r := by
  rw [← e, Nat.add_comm, Nat.add_mul_mod_self_right, Nat.mod_eq_of_lt h]

set_option maxRecDepth 100000 in
set_option maxHeartbeats 16000000 in
theorem wideDivs_walk (hh hl lh ll dh dl x : Nat) (h1 : WW hh hl) (h2 : WW lh ll) (hd : WW dh dl) (hx : x < 18446744073709551616) (w : World) (ht : Tab w) :
    Calls Tryd.prog 3 #[U hh hl, U lh ll, U dh dl, .int .u64 (x : Int)] w (RetB true w) := by
  have HT := Lib.hid ht
  have L1 := Lib.hid (len40 h1)
  have L2 := Lib.hid (len40 hd)
  have L3 := Lib.hid (len80 h1 h2)
  have HX := Lib.hid hx
  have ZZ := Lib.hid (fun W => zero_t (h := 0) (l := 0) rfl W)
  clear ht hx
  go_enter Tryd.func3, Tryd.ntmps3
  go_wp2_with fail
  refine (awake_any _ (HT.out.below (by go_grown))).mono ?_
  rintro e w1 ⟨rfl, hb1⟩
  have A0 := Lib.hid (Holds2.below (by simp [Holds2, go_sem]) hb1 : Holds2 w1 w.heap.size hh hl)
  have A1 := Lib.hid (Holds2.below (by simp [Holds2, go_sem]) hb1 : Holds2 w1 (w.heap.size + 1) lh ll)
  have A2 := Lib.hid (Holds2.below (by simp [Holds2, go_sem]) hb1 : Holds2 w1 (w.heap.size + 1 + 1) dh dl)
  have B1 : Below w.heap.size w w1 := bstep (by go_grown) hb1
  clear hb1 HT
  obtain ⟨a1, a2, a3, a4, a5⟩ := A0.out
  obtain ⟨b1, b2, b3, b4, b5⟩ := A1.out
  obtain ⟨c1, c2, c3, c4, c5⟩ := A2.out
  rcases Nat.lt_or_ge (nv hh hl) (nv dh dl) with k | k
  · have CMP := Lib.hid (fun v u W (h : Row W v (Dg.dg (nv hh hl))) (h' : Row W u (Dg.dg (nv dh dl))) => rcmp_any v u (nv hh hl) (nv dh dl) (by have := L1.out; omega) (by have := L2.out; omega) W h h')
    rw [cmpN_lt k] at CMP
    have DD := Lib.hid (fun W => div_yes hh hl lh ll dh dl h1 h2 hd k W)
    have N0 := Lib.hid (show 0 < nv dh dl by omega)
    clear k
    go_wp2_with fail
    refine (DD.out _).mono ?_
    rintro e w2 ⟨qh, ql, rh, rl, Q, rfl, hb2⟩
    obtain ⟨q1, q2, q3, q4⟩ := Q
    have Q3 := Lib.hid q3
    have Q4 := Lib.hid q4
    have C0 := Lib.hid (((A0.out.below hb2).alloc (.cells #[.int .u64 (qh : Int), .int .u64 (ql : Int)] 24)).alloc (.cells #[.int .u64 (rh : Int), .int .u64 (rl : Int)] 24))
    have C1 := Lib.hid (((A1.out.below hb2).alloc (.cells #[.int .u64 (qh : Int), .int .u64 (ql : Int)] 24)).alloc (.cells #[.int .u64 (rh : Int), .int .u64 (rl : Int)] 24))
    have C2 := Lib.hid (((A2.out.below hb2).alloc (.cells #[.int .u64 (qh : Int), .int .u64 (ql : Int)] 24)).alloc (.cells #[.int .u64 (rh : Int), .int .u64 (rl : Int)] 24))
    have C3 := Lib.hid (((Holds2.new2 rfl).alloc _ : Holds2 ((w2.alloc (.cells #[.int .u64 (qh : Int), .int .u64 (ql : Int)] 24)).alloc (.cells #[.int .u64 (rh : Int), .int .u64 (rl : Int)] 24)) w2.heap.size qh ql))
    have C4 := Lib.hid ((Holds2.new2 (by simp) : Holds2 ((w2.alloc (.cells #[.int .u64 (qh : Int), .int .u64 (ql : Int)] 24)).alloc (.cells #[.int .u64 (rh : Int), .int .u64 (rl : Int)] 24)) (w2.heap.size + 1) rh rl))
    have B2 := Lib.hid (ballc (ballc (bstep B1 hb2) (.cells #[.int .u64 (qh : Int), .int .u64 (ql : Int)] 24)) (.cells #[.int .u64 (rh : Int), .int .u64 (rl : Int)] 24))
    clear a1 a2 a3 a4 a5 b1 b2 b3 b4 b5 c1 c2 c3 c4 c5 hb2 B1 A0 A1 A2 q3 q4 DD
    go_upto_region 4 with fail
    generalize (w2.alloc (.cells #[.int .u64 (qh : Int), .int .u64 (ql : Int)] 24)).alloc (.cells #[.int .u64 (rh : Int), .int .u64 (rl : Int)] 24) = W0 at *
    obtain ⟨a1, a2, _, _, _⟩ := C0.out
    obtain ⟨c1, c2, _, _, _⟩ := C2.out
    go_cut [50] (fun t W => t = .bool false ∧ Below W0.heap.size W0 W)
    case first =>
      have hun : undef = Value.tuple #[] := rfl
      first
      | (go_region_with (first
          | (go_at_call 13; refine (N_any _ _ ?_ _).mono ?_; assumption; rintro e wN ⟨vN, rfl, RN, hbN⟩; (first | have hbN' := bundrew hbN | have hbN' := hbN); (try (have a1' := keepCell a1 hbN')); (try (have a2' := keepCell a2 hbN')); (try (have c1' := keepCell c1 hbN')); (try (have c2' := keepCell c2 hbN')))
          | (go_at_call 12; refine (CMP.out _ _ _ ?_ ?_).mono ?_; (repeat' (first | (with_reducible assumption) | (with_reducible exact Hid.out (by with_reducible assumption)) | (with_reducible refine rowDrew ?_) | (with_reducible refine rowAlloc ?_ _) | (with_reducible refine Row.below ?_ (by with_reducible assumption)))); (repeat' (first | (with_reducible assumption) | (with_reducible exact Hid.out (by with_reducible assumption)) | (with_reducible refine rowDrew ?_) | (with_reducible refine rowAlloc ?_ _) | (with_reducible refine Row.below ?_ (by with_reducible assumption)))); rintro e wC ⟨rfl, hbC⟩)))
      | fail "the region"
      all_goals
        go_wp2_with fail
        go_meet
        case rel =>
          refine ⟨rfl, ?_⟩
          repeat' (first | (with_reducible exact Below.refl _ _) | (with_reducible refine Below.drew ?_) | (with_reducible refine ballc ?_ _) | (with_reducible refine bstep ?_ (by with_reducible assumption)))
    case rest =>
      obtain ⟨rfl, BC⟩ := hcut
      clear a1 a2 c1 c2 CMP
      have C0 := Lib.hid (C0.out.below BC)
      have C1 := Lib.hid (C1.out.below BC)
      have C2 := Lib.hid (C2.out.below BC)
      have C3 := Lib.hid (C3.out.below BC)
      have C4 := Lib.hid (C4.out.below BC)
      have B2 := Lib.hid (bstep B2.out BC)
      clear BC
      have DV := Lib.hid (fun v u W (h : Row W v (Dg.dg (nv2 hh hl lh ll))) (h' : Row W u (Dg.dg (nv dh dl))) => rdiv_any v u (nv2 hh hl lh ll) (nv dh dl) N0.out (by have := L3.out; omega) (by have := L2.out; omega) W h h')
      rw [divides Q4.out Q3.out, leaves Q4.out Q3.out] at DV
      have SA := Lib.hid (fun v u W (h : Row W v (Dg.dg (nv qh ql))) (h' : Row W u (Dg.dg (nv qh ql))) => same_yes v u _ _ (by have := len40 q1; omega) (by have := len40 q1; omega) rfl W h h')
      have SB := Lib.hid (fun v u W (h : Row W v (Dg.dg (nv rh rl))) (h' : Row W u (Dg.dg (nv rh rl))) => same_yes v u _ _ (by have := len40 q2; omega) (by have := len40 q2; omega) rfl W h h')
      go_upto_region 7 with fail
      obtain ⟨a1, a2, _, _, _⟩ := C0.out
      obtain ⟨b1, b2, _, _, _⟩ := C1.out
      obtain ⟨c1, c2, _, _, _⟩ := C2.out
      go_cut [12, 13] (fun s t W => Row W s (Dg.dg (nv qh ql)) ∧ Row W t (Dg.dg (nv rh rl)) ∧ Below wc.heap.size wc W)
      case first =>
        go_region_held3 (fun w' => w'.cell? ⟨w.heap.size, 0, none⟩ = some (.int .u64 (hh : Int)) ∧ w'.cell? ⟨w.heap.size, 1, none⟩ = some (.int .u64 (hl : Int)) ∧ w'.cell? ⟨w.heap.size + 1, 0, none⟩ = some (.int .u64 (lh : Int)) ∧ w'.cell? ⟨w.heap.size + 1, 1, none⟩ = some (.int .u64 (ll : Int)) ∧ w'.cell? ⟨w.heap.size + 1 + 1, 0, none⟩ = some (.int .u64 (dh : Int)) ∧ w'.cell? ⟨w.heap.size + 1 + 1, 1, none⟩ = some (.int .u64 (dl : Int)))
          (first | assumption | exact keepS6 (by assumption) (by assumption) | exact ⟨a1, a2, b1, b2, c1, c2⟩)
          (first
            | (go_at_call 16; refine (Two_any hh hl lh ll h1 h2 _).mono ?_; rintro e wT ⟨vT, rfl, RT, hbT⟩)
            | (go_at_call 13; refine (N_any dh dl hd _).mono ?_; rintro e wN ⟨vN, rfl, RN, hbN⟩)
            | (go_at_call 15; refine (DV.out _ _ _ ?_ ?_).mono ?_; (repeat' (first | (with_reducible assumption) | (with_reducible exact Hid.out (by with_reducible assumption)) | (with_reducible refine rowDrew ?_) | (with_reducible refine rowAlloc ?_ _) | (with_reducible refine Row.below ?_ (by with_reducible assumption)))); (repeat' (first | (with_reducible assumption) | (with_reducible exact Hid.out (by with_reducible assumption)) | (with_reducible refine rowDrew ?_) | (with_reducible refine rowAlloc ?_ _) | (with_reducible refine Row.below ?_ (by with_reducible assumption)))); rintro e wD ⟨vQ, vR, rfl, RQ, RR, hbD⟩))
        all_goals
          go_wp2_with fail
          go_meet
          case rel =>
            refine ⟨RQ, RR, ?_⟩
            repeat' (first | (with_reducible exact Below.refl _ _) | (with_reducible refine Below.drew ?_) | (with_reducible refine ballc ?_ _) | (with_reducible refine bstep ?_ (by with_reducible assumption)))
      case rest =>
        obtain ⟨RQ, RR, BC⟩ := hcut
        have HRQ := Lib.hid RQ
        have HRR := Lib.hid RR
        have C0 := Lib.hid (C0.out.below BC)
        have C1 := Lib.hid (C1.out.below BC)
        have C3 := Lib.hid (C3.out.below BC)
        have C4 := Lib.hid (C4.out.below BC)
        have B2 := Lib.hid (bstep B2.out BC)
        clear BC RQ RR a1 a2 b1 b2 c1 c2 DV
        obtain ⟨a1, a2, _, _, _⟩ := C3.out
        go_wp2_with fail
        refine (N_any qh ql q1 _).mono ?_
        rintro e y1 ⟨vA, rfl, RA, hy1⟩
        have HRA := Lib.hid RA
        have HRQ := Lib.hid (HRQ.out.below hy1)
        have HRR := Lib.hid (HRR.out.below hy1)
        have C0 := Lib.hid (C0.out.below hy1)
        have C1 := Lib.hid (C1.out.below hy1)
        have C4 := Lib.hid (C4.out.below hy1)
        have B2 := Lib.hid (bstep B2.out hy1)
        clear hy1 RA a1 a2 C3
        go_wp2_with fail
        refine (SA.out _ _ _ HRA.out HRQ.out).mono ?_
        rintro e y2 ⟨rfl, hy2⟩
        have HRR := Lib.hid (HRR.out.below hy2)
        have C0 := Lib.hid (C0.out.below hy2)
        have C1 := Lib.hid (C1.out.below hy2)
        have C4 := Lib.hid (C4.out.below hy2)
        have B2 := Lib.hid (bstep B2.out hy2)
        clear hy2 HRA HRQ SA
        obtain ⟨a1, a2, _, _, _⟩ := C4.out
        go_wp2_with fail
        refine (N_any rh rl q2 _).mono ?_
        rintro e y3 ⟨vA, rfl, RA, hy3⟩
        have HRA := Lib.hid RA
        have HRR := Lib.hid (HRR.out.below hy3)
        have C0 := Lib.hid (C0.out.below hy3)
        have C1 := Lib.hid (C1.out.below hy3)
        have B2 := Lib.hid (bstep B2.out hy3)
        clear hy3 RA a1 a2 C4
        go_wp2_with fail
        refine (SB.out _ _ _ HRA.out HRR.out).mono ?_
        rintro e y4 ⟨rfl, BC⟩
        clear HRA HRR SB
        have C0 := Lib.hid (C0.out.below BC)
        have C1 := Lib.hid (C1.out.below BC)
        have B3 := Lib.hid (bstep B2.out BC)
        clear BC B2
        obtain ⟨a1, a2, a3, a4, a5⟩ := C0.out
        obtain ⟨b1, b2, b3, b4, b5⟩ := C1.out
        rcases Nat.eq_zero_or_pos x with x0 | x0
        · subst x0
          go_wp2_with fail
          refine (divWord_no hh hl lh ll _).mono ?_
          rintro e v1 ⟨rfl, hb1⟩
          have B4 := Lib.hid (bstep B3.out hb1)
          clear a1 a2 a3 a4 a5 b1 b2 b3 b4 b5 hb1 B3 C0 C1
          go_wp2_with fail
          refine (ZZ.out _).mono ?_
          rintro e v2 ⟨rfl, hb2⟩
          have G1 := Lib.hid (Holds2.below (by simp [Holds2, go_sem]) hb2 : Holds2 v2 (v1.heap.size + 1) 0 0)
          have B5 := Lib.hid (bstep (ballc (ballc B4.out _) _) hb2)
          clear hb2 B4
          obtain ⟨a1, a2, a3, a4, a5⟩ := G1.out
          go_wp2_with fail
          refine (ZZ.out _).mono ?_
          rintro e v3 ⟨rfl, hb3⟩
          have B6 := Lib.hid (bstep B5.out hb3)
          clear hb3 B5 a1 a2 a3 a4 a5
          go_wp2
          go_ret
          exact ⟨rfl, B6.out⟩
        · have t9 : ((x : Int) == 0) = false := by simp; omega
          have DW := Lib.hid (fun W => divWord_any hh hl lh ll x h1 h2 x0 HX.out W)
          have X0 := Lib.hid x0
          clear x0
          go_wp2_with fail
          refine (DW.out _).mono ?_
          rintro e v1 ⟨ph, pl, p2h, p2l, y, F, rfl, hb1⟩
          obtain ⟨f1, f2, f3, f4⟩ := F
          have B4 := Lib.hid (bstep B3.out hb1)
          have y64 := Lib.hid (Nat.lt_trans f3 HX.out)
          have DV := Lib.hid (fun v u W (h : Row W v (Dg.dg (nv2 hh hl lh ll))) (h' : Row W u (Dg.dg x)) => rdiv_any v u (nv2 hh hl lh ll) x X0.out (by have := L3.out; omega) (by have := Dg.dg_length_le (show x < 10 ^ 20 by have := HX.out; omega); omega) W h h')
          rw [divides f4 f3, leaves f4 f3] at DV
          have SA := Lib.hid (fun v u W (h : Row W v (Dg.dg (nv2 ph pl p2h p2l))) (h' : Row W u (Dg.dg (nv2 ph pl p2h p2l))) => same_yes v u _ _ (by have := len80 f1 f2; omega) (by have := len80 f1 f2; omega) rfl W h h')
          have SB := Lib.hid (fun v u W (h : Row W v (Dg.dg y)) (h' : Row W u (Dg.dg y)) => same_yes v u y y (by have := Dg.dg_length_le (show y < 10 ^ 20 by have := y64.out; omega); omega) (by have := Dg.dg_length_le (show y < 10 ^ 20 by have := y64.out; omega); omega) rfl W h h')
          have C0 := Lib.hid (((C0.out.below hb1).alloc (.cells #[.int .u64 (ph : Int), .int .u64 (pl : Int)] 24)).alloc (.cells #[.int .u64 (p2h : Int), .int .u64 (p2l : Int)] 24))
          have C1 := Lib.hid (((C1.out.below hb1).alloc (.cells #[.int .u64 (ph : Int), .int .u64 (pl : Int)] 24)).alloc (.cells #[.int .u64 (p2h : Int), .int .u64 (p2l : Int)] 24))
          have F1 := Lib.hid f1
          have F2 := Lib.hid f2
          clear a1 a2 a3 a4 a5 b1 b2 b3 b4 b5 hb1 f1 f2 f3 f4 B3 DW
          have C3 := Lib.hid (((Holds2.new2 rfl).alloc _ : Holds2 ((v1.alloc (.cells #[.int .u64 (ph : Int), .int .u64 (pl : Int)] 24)).alloc (.cells #[.int .u64 (p2h : Int), .int .u64 (p2l : Int)] 24)) v1.heap.size ph pl))
          have C4 := Lib.hid ((Holds2.new2 (by simp) : Holds2 ((v1.alloc (.cells #[.int .u64 (ph : Int), .int .u64 (pl : Int)] 24)).alloc (.cells #[.int .u64 (p2h : Int), .int .u64 (p2l : Int)] 24)) (v1.heap.size + 1) p2h p2l))
          have B5 := Lib.hid (ballc (ballc B4.out (.cells #[.int .u64 (ph : Int), .int .u64 (pl : Int)] 24)) (.cells #[.int .u64 (p2h : Int), .int .u64 (p2l : Int)] 24))
          go_upto_region 13 with fail
          generalize (v1.alloc (.cells #[.int .u64 (ph : Int), .int .u64 (pl : Int)] 24)).alloc (.cells #[.int .u64 (p2h : Int), .int .u64 (p2l : Int)] 24) = W5 at *
          obtain ⟨a1, a2, a3, a4, a5⟩ := C0.out
          obtain ⟨b1, b2, b3, b4, b5⟩ := C1.out
          go_wp2_with fail
          refine (Two_any hh hl lh ll h1 h2 _).mono ?_
          rintro e v2 ⟨vT, rfl, RT, hb2⟩
          have HRT := Lib.hid RT
          have C3 := Lib.hid (C3.out.below hb2)
          have C4 := Lib.hid (C4.out.below hb2)
          have B6 := Lib.hid (bstep B5.out hb2)
          clear a1 a2 a3 a4 a5 b1 b2 b3 b4 b5 hb2 RT B5 C0 C1
          go_wp2_with fail
          refine (words1 _ x HX.out _ (by simp [go_sem])).mono ?_
          rintro e v3 ⟨vX, rfl, RX, hb3⟩
          have HRX := Lib.hid RX
          have HRT := Lib.hid ((rowAlloc HRT.out _).below hb3)
          have C3 := Lib.hid ((C3.out.alloc _).below hb3)
          have C4 := Lib.hid ((C4.out.alloc _).below hb3)
          have B7 := Lib.hid (bstep (ballc B6.out _) hb3)
          clear hb3 RX B6
          go_wp2_with fail
          refine (DV.out _ _ _ HRT.out HRX.out).mono ?_
          rintro e v4 ⟨vQ, vR, rfl, RQ, RR, hb4⟩
          have HRQ := Lib.hid RQ
          have HRR := Lib.hid RR
          have C3 := Lib.hid (C3.out.below hb4)
          have C4 := Lib.hid (C4.out.below hb4)
          have B8 := Lib.hid (bstep B7.out hb4)
          clear hb4 RQ RR HRT HRX B7 DV
          obtain ⟨a1, a2, a3, a4, a5⟩ := C3.out
          obtain ⟨b1, b2, b3, b4, b5⟩ := C4.out
          go_wp2_with fail
          refine (Two_any ph pl p2h p2l F1.out F2.out _).mono ?_
          rintro e v5 ⟨vT, rfl, RT, hb5⟩
          have HRT := Lib.hid RT
          have HRQ := Lib.hid (HRQ.out.below hb5)
          have HRR := Lib.hid (HRR.out.below hb5)
          have B9 := Lib.hid (bstep B8.out hb5)
          clear a1 a2 a3 a4 a5 b1 b2 b3 b4 b5 hb5 RT B8 C3 C4
          go_wp2_with fail
          refine (SA.out _ _ _ HRT.out HRQ.out).mono ?_
          rintro e v6 ⟨rfl, hb6⟩
          have HRR := Lib.hid (HRR.out.below hb6)
          have B10 := Lib.hid (bstep B9.out hb6)
          clear hb6 HRT HRQ B9
          go_wp2_with fail
          refine (words1 _ y y64.out _ (by simp [go_sem])).mono ?_
          rintro e v7 ⟨vY, rfl, RY, hb7⟩
          have HRY := Lib.hid RY
          have HRR := Lib.hid ((rowAlloc HRR.out _).below hb7)
          have B11 := Lib.hid (bstep (ballc B10.out _) hb7)
          clear hb7 RY B10
          go_wp2_with fail
          refine (SB.out _ _ _ HRY.out HRR.out).mono ?_
          rintro e v8 ⟨rfl, hb8⟩
          have B12 := Lib.hid (bstep B11.out hb8)
          clear hb8 HRY HRR B11
          go_wp2
          go_ret
          exact ⟨rfl, B12.out⟩
  · have CMP := Lib.hid (fun v u W (h : Row W v (Dg.dg (nv hh hl))) (h' : Row W u (Dg.dg (nv dh dl))) => rcmp_any v u (nv hh hl) (nv dh dl) (by have := L1.out; omega) (by have := L2.out; omega) W h h')
    have tc : decide (cmpN (nv hh hl) (nv dh dl) < 0) = false := by
      rcases cmpN_range (nv hh hl) (nv dh dl) with ⟨e, _⟩ | ⟨e, _⟩ | ⟨e, _⟩
      · omega
      · rw [e]; decide
      · rw [e]; decide
    generalize cmpN (nv hh hl) (nv dh dl) = cv at *
    have DD := Lib.hid (fun W => div_no hh hl lh ll dh dl h1 hd k W)
    clear k
    go_wp2_with fail
    refine (DD.out _).mono ?_
    rintro e w2 ⟨rfl, hb2⟩
    have C0 := Lib.hid (((A0.out.below hb2).alloc (.cells #[.int .u64 (0 : Int), .int .u64 (0 : Int)] 24)).alloc (.cells #[.int .u64 (0 : Int), .int .u64 (0 : Int)] 24))
    have C1 := Lib.hid (((A1.out.below hb2).alloc (.cells #[.int .u64 (0 : Int), .int .u64 (0 : Int)] 24)).alloc (.cells #[.int .u64 (0 : Int), .int .u64 (0 : Int)] 24))
    have C2 := Lib.hid (((A2.out.below hb2).alloc (.cells #[.int .u64 (0 : Int), .int .u64 (0 : Int)] 24)).alloc (.cells #[.int .u64 (0 : Int), .int .u64 (0 : Int)] 24))
    have C3 := Lib.hid (((Holds2.new2 (h := 0) (l := 0) rfl).alloc _ : Holds2 ((w2.alloc (.cells #[.int .u64 (0 : Int), .int .u64 (0 : Int)] 24)).alloc (.cells #[.int .u64 (0 : Int), .int .u64 (0 : Int)] 24)) w2.heap.size 0 0))
    have C4 := Lib.hid ((Holds2.new2 (h := 0) (l := 0) (by simp) : Holds2 ((w2.alloc (.cells #[.int .u64 (0 : Int), .int .u64 (0 : Int)] 24)).alloc (.cells #[.int .u64 (0 : Int), .int .u64 (0 : Int)] 24)) (w2.heap.size + 1) 0 0))
    have B2 := Lib.hid (ballc (ballc (bstep B1 hb2) (.cells #[.int .u64 (0 : Int), .int .u64 (0 : Int)] 24)) (.cells #[.int .u64 (0 : Int), .int .u64 (0 : Int)] 24))
    clear a1 a2 a3 a4 a5 b1 b2 b3 b4 b5 c1 c2 c3 c4 c5 hb2 B1 A0 A1 A2 DD
    go_upto_region 4 with fail
    generalize (w2.alloc (.cells #[.int .u64 (0 : Int), .int .u64 (0 : Int)] 24)).alloc (.cells #[.int .u64 (0 : Int), .int .u64 (0 : Int)] 24) = W0 at *
    obtain ⟨a1, a2, _, _, _⟩ := C0.out
    obtain ⟨c1, c2, _, _, _⟩ := C2.out
    obtain ⟨d1, d2, _, _, _⟩ := C3.out
    obtain ⟨e1, e2, _, _, _⟩ := C4.out
    go_cut [50] (fun t W => t = .bool false ∧ Below W0.heap.size W0 W)
    case first =>
      go_region_held3 (fun w' => w'.cell? ⟨w.heap.size, 0, none⟩ = some (.int .u64 (hh : Int)) ∧ w'.cell? ⟨w.heap.size, 1, none⟩ = some (.int .u64 (hl : Int)) ∧ w'.cell? ⟨w.heap.size + 1 + 1, 0, none⟩ = some (.int .u64 (dh : Int)) ∧ w'.cell? ⟨w.heap.size + 1 + 1, 1, none⟩ = some (.int .u64 (dl : Int)) ∧ w'.cell? ⟨w2.heap.size, 0, none⟩ = some (.int .u64 ((0 : Nat) : Int)) ∧ w'.cell? ⟨w2.heap.size, 1, none⟩ = some (.int .u64 ((0 : Nat) : Int)) ∧ w'.cell? ⟨w2.heap.size + 1, 0, none⟩ = some (.int .u64 ((0 : Nat) : Int)) ∧ w'.cell? ⟨w2.heap.size + 1, 1, none⟩ = some (.int .u64 ((0 : Nat) : Int)))
        (first | assumption | exact keepS8 (by assumption) (by assumption) | exact ⟨a1, a2, c1, c2, d1, d2, e1, e2⟩)
        (first
          | (go_at_call 13; refine (N_any _ _ ?_ _).mono ?_; assumption; rintro e wN ⟨vN, rfl, RN, hbN⟩)
          | (go_at_call 12; refine (CMP.out _ _ _ ?_ ?_).mono ?_; (repeat' (first | (with_reducible assumption) | (with_reducible exact Hid.out (by with_reducible assumption)) | (with_reducible refine rowDrew ?_) | (with_reducible refine rowAlloc ?_ _) | (with_reducible refine Row.below ?_ (by with_reducible assumption)))); (repeat' (first | (with_reducible assumption) | (with_reducible exact Hid.out (by with_reducible assumption)) | (with_reducible refine rowDrew ?_) | (with_reducible refine rowAlloc ?_ _) | (with_reducible refine Row.below ?_ (by with_reducible assumption)))); rintro e wC ⟨rfl, hbC⟩)
          | (go_at_call 14; refine (ZZ.out _).mono ?_; rintro e wZ ⟨rfl, hbZ⟩))
      all_goals
        go_wp2_with fail
        go_meet
        case rel =>
          refine ⟨rfl, ?_⟩
          repeat' (first | (with_reducible exact Below.refl _ _) | (with_reducible refine Below.drew ?_) | (with_reducible refine ballc ?_ _) | (with_reducible refine bstep ?_ (by with_reducible assumption)))
    case rest =>
      obtain ⟨rfl, BC⟩ := hcut
      clear a1 a2 c1 c2 d1 d2 e1 e2 CMP C2 C3 C4
      have C0 := Lib.hid (C0.out.below BC)
      have C1 := Lib.hid (C1.out.below BC)
      have B3 := Lib.hid (bstep B2.out BC)
      clear BC B2
      obtain ⟨a1, a2, a3, a4, a5⟩ := C0.out
      obtain ⟨b1, b2, b3, b4, b5⟩ := C1.out
      rcases Nat.eq_zero_or_pos x with x0 | x0
      · subst x0
        go_wp2_with fail
        refine (divWord_no hh hl lh ll _).mono ?_
        rintro e v1 ⟨rfl, hb1⟩
        have B4 := Lib.hid (bstep B3.out hb1)
        clear a1 a2 a3 a4 a5 b1 b2 b3 b4 b5 hb1 B3 C0 C1
        go_wp2_with fail
        refine (ZZ.out _).mono ?_
        rintro e v2 ⟨rfl, hb2⟩
        have G1 := Lib.hid (Holds2.below (by simp [Holds2, go_sem]) hb2 : Holds2 v2 (v1.heap.size + 1) 0 0)
        have B5 := Lib.hid (bstep (ballc (ballc B4.out _) _) hb2)
        clear hb2 B4
        obtain ⟨a1, a2, a3, a4, a5⟩ := G1.out
        go_wp2_with fail
        refine (ZZ.out _).mono ?_
        rintro e v3 ⟨rfl, hb3⟩
        have B6 := Lib.hid (bstep B5.out hb3)
        clear hb3 B5 a1 a2 a3 a4 a5
        go_wp2
        go_ret
        exact ⟨rfl, B6.out⟩
      · have t9 : ((x : Int) == 0) = false := by simp; omega
        have DW := Lib.hid (fun W => divWord_any hh hl lh ll x h1 h2 x0 HX.out W)
        have X0 := Lib.hid x0
        clear x0
        go_wp2_with fail
        refine (DW.out _).mono ?_
        rintro e v1 ⟨ph, pl, p2h, p2l, y, F, rfl, hb1⟩
        obtain ⟨f1, f2, f3, f4⟩ := F
        have B4 := Lib.hid (bstep B3.out hb1)
        have y64 := Lib.hid (Nat.lt_trans f3 HX.out)
        have DV := Lib.hid (fun v u W (h : Row W v (Dg.dg (nv2 hh hl lh ll))) (h' : Row W u (Dg.dg x)) => rdiv_any v u (nv2 hh hl lh ll) x X0.out (by have := L3.out; omega) (by have := Dg.dg_length_le (show x < 10 ^ 20 by have := HX.out; omega); omega) W h h')
        rw [divides f4 f3, leaves f4 f3] at DV
        have SA := Lib.hid (fun v u W (h : Row W v (Dg.dg (nv2 ph pl p2h p2l))) (h' : Row W u (Dg.dg (nv2 ph pl p2h p2l))) => same_yes v u _ _ (by have := len80 f1 f2; omega) (by have := len80 f1 f2; omega) rfl W h h')
        have SB := Lib.hid (fun v u W (h : Row W v (Dg.dg y)) (h' : Row W u (Dg.dg y)) => same_yes v u y y (by have := Dg.dg_length_le (show y < 10 ^ 20 by have := y64.out; omega); omega) (by have := Dg.dg_length_le (show y < 10 ^ 20 by have := y64.out; omega); omega) rfl W h h')
        have C0 := Lib.hid (((C0.out.below hb1).alloc (.cells #[.int .u64 (ph : Int), .int .u64 (pl : Int)] 24)).alloc (.cells #[.int .u64 (p2h : Int), .int .u64 (p2l : Int)] 24))
        have C1 := Lib.hid (((C1.out.below hb1).alloc (.cells #[.int .u64 (ph : Int), .int .u64 (pl : Int)] 24)).alloc (.cells #[.int .u64 (p2h : Int), .int .u64 (p2l : Int)] 24))
        have F1 := Lib.hid f1
        have F2 := Lib.hid f2
        clear a1 a2 a3 a4 a5 b1 b2 b3 b4 b5 hb1 f1 f2 f3 f4 B3 DW
        have C3 := Lib.hid (((Holds2.new2 rfl).alloc _ : Holds2 ((v1.alloc (.cells #[.int .u64 (ph : Int), .int .u64 (pl : Int)] 24)).alloc (.cells #[.int .u64 (p2h : Int), .int .u64 (p2l : Int)] 24)) v1.heap.size ph pl))
        have C4 := Lib.hid ((Holds2.new2 (by simp) : Holds2 ((v1.alloc (.cells #[.int .u64 (ph : Int), .int .u64 (pl : Int)] 24)).alloc (.cells #[.int .u64 (p2h : Int), .int .u64 (p2l : Int)] 24)) (v1.heap.size + 1) p2h p2l))
        have B5 := Lib.hid (ballc (ballc B4.out (.cells #[.int .u64 (ph : Int), .int .u64 (pl : Int)] 24)) (.cells #[.int .u64 (p2h : Int), .int .u64 (p2l : Int)] 24))
        go_upto_region 13 with fail
        generalize (v1.alloc (.cells #[.int .u64 (ph : Int), .int .u64 (pl : Int)] 24)).alloc (.cells #[.int .u64 (p2h : Int), .int .u64 (p2l : Int)] 24) = W5 at *
        obtain ⟨a1, a2, a3, a4, a5⟩ := C0.out
        obtain ⟨b1, b2, b3, b4, b5⟩ := C1.out
        go_wp2_with fail
        refine (Two_any hh hl lh ll h1 h2 _).mono ?_
        rintro e v2 ⟨vT, rfl, RT, hb2⟩
        have HRT := Lib.hid RT
        have C3 := Lib.hid (C3.out.below hb2)
        have C4 := Lib.hid (C4.out.below hb2)
        have B6 := Lib.hid (bstep B5.out hb2)
        clear a1 a2 a3 a4 a5 b1 b2 b3 b4 b5 hb2 RT B5 C0 C1
        go_wp2_with fail
        refine (words1 _ x HX.out _ (by simp [go_sem])).mono ?_
        rintro e v3 ⟨vX, rfl, RX, hb3⟩
        have HRX := Lib.hid RX
        have HRT := Lib.hid ((rowAlloc HRT.out _).below hb3)
        have C3 := Lib.hid ((C3.out.alloc _).below hb3)
        have C4 := Lib.hid ((C4.out.alloc _).below hb3)
        have B7 := Lib.hid (bstep (ballc B6.out _) hb3)
        clear hb3 RX B6
        go_wp2_with fail
        refine (DV.out _ _ _ HRT.out HRX.out).mono ?_
        rintro e v4 ⟨vQ, vR, rfl, RQ, RR, hb4⟩
        have HRQ := Lib.hid RQ
        have HRR := Lib.hid RR
        have C3 := Lib.hid (C3.out.below hb4)
        have C4 := Lib.hid (C4.out.below hb4)
        have B8 := Lib.hid (bstep B7.out hb4)
        clear hb4 RQ RR HRT HRX B7 DV
        obtain ⟨a1, a2, a3, a4, a5⟩ := C3.out
        obtain ⟨b1, b2, b3, b4, b5⟩ := C4.out
        go_wp2_with fail
        refine (Two_any ph pl p2h p2l F1.out F2.out _).mono ?_
        rintro e v5 ⟨vT, rfl, RT, hb5⟩
        have HRT := Lib.hid RT
        have HRQ := Lib.hid (HRQ.out.below hb5)
        have HRR := Lib.hid (HRR.out.below hb5)
        have B9 := Lib.hid (bstep B8.out hb5)
        clear a1 a2 a3 a4 a5 b1 b2 b3 b4 b5 hb5 RT B8 C3 C4
        go_wp2_with fail
        refine (SA.out _ _ _ HRT.out HRQ.out).mono ?_
        rintro e v6 ⟨rfl, hb6⟩
        have HRR := Lib.hid (HRR.out.below hb6)
        have B10 := Lib.hid (bstep B9.out hb6)
        clear hb6 HRT HRQ B9
        go_wp2_with fail
        refine (words1 _ y y64.out _ (by simp [go_sem])).mono ?_
        rintro e v7 ⟨vY, rfl, RY, hb7⟩
        have HRY := Lib.hid RY
        have HRR := Lib.hid ((rowAlloc HRR.out _).below hb7)
        have B11 := Lib.hid (bstep (ballc B10.out _) hb7)
        clear hb7 RY B10
        go_wp2_with fail
        refine (SB.out _ _ _ HRY.out HRR.out).mono ?_
        rintro e v8 ⟨rfl, hb8⟩
        have B12 := Lib.hid (bstep B11.out hb8)
        clear hb8 HRY HRR B11
        go_wp2
        go_ret
        exact ⟨rfl, B12.out⟩
end Go.Proofs.YtlcpbmjipplcdaaDoor
