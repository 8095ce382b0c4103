/-
  The number that is handed in (Make of the laws), whole numbers of ints, small numbers (Int of package dec, of of the laws), each as a contract of its call.
-/
import Derived.Test.YtkkddflclakphaaDoorC0
import Derived.Test.YtkkddflclakphaaDoorE4
namespace Go.Proofs.YtkkddflclakphaaDoor
open Go.RowKit

theorem HoldsD.drew' {W : World} {g : Nat} {neg : Bool} {h l : Nat} {e : Int} (H : HoldsD W g neg h l e) : HoldsD W.drew g neg h l e := H
theorem ten34_nv {th tl : Nat} (P : TenF 34 th tl) : nv 0 0 < nv th tl := by
  rw [P.2, show nv 0 0 = 0 by decide]
  decide

set_option maxRecDepth 100000 in
set_option maxHeartbeats 4000000 in
theorem makeD_any (neg : Bool) (h l : Nat) (x : Int) (ha : WW h l) (x1 : -9223372036854775808 ≤ x) (x2 : x ≤ 9223372036854775807) (w : World) (ht : Tab w) :
    Calls Tryd.prog 13 #[Dv neg h l x] w (RetD (fun n h' l' x' => WW h' l' ∧ NumD (nv h' l') x' ∧ (nv h' l' = 0 → n = false)) w) := by
  have HT := Lib.hid ht
  have HA := Lib.hid ha
  obtain ⟨y, hy, y1, y2⟩ : ∃ y : Int, ((-6176 ≤ x ∧ x ≤ 6111 ∧ y = x) ∨ ((x < -6176 ∨ 6111 < x) ∧ y = x.tmod 6000)) ∧ -6176 ≤ y ∧ y ≤ 6111 := by
    by_cases c : -6176 ≤ x ∧ x ≤ 6111
    · exact ⟨x, .inl ⟨c.1, c.2, rfl⟩, c.1, c.2⟩
    · refine ⟨x.tmod 6000, .inr ⟨by omega, rfl⟩, ?_, ?_⟩
      · have := Int.lt_tmod_of_pos x (show (0 : Int) < 6000 by decide)
        omega
      · have := Int.tmod_lt_of_pos x (show (0 : Int) < 6000 by decide)
        omega
  have X12 := Lib.hid (And.intro x1 x2)
  clear ht ha x1 x2
  go_enter Tryd.func13, Tryd.ntmps13
  go_wp2_with fail
  have B0 : Below w.heap.size w ((w.alloc (.cells #[.bool neg, .int .u64 (h : Int), .int .u64 (l : Int), .int .i64 x] 33)).alloc (.cells #[.bool false, .int .u64 0, .int .u64 0, .int .i64 0] 34)) := by go_grown
  have D0 := Lib.hid (show HoldsD ((w.alloc (.cells #[.bool neg, .int .u64 (h : Int), .int .u64 (l : Int), .int .i64 x] 33)).alloc (.cells #[.bool false, .int .u64 0, .int .u64 0, .int .i64 0] 34)) w.heap.size neg h l x from by simp [HoldsD, go_sem])
  have D1 := Lib.hid (show HoldsD ((w.alloc (.cells #[.bool neg, .int .u64 (h : Int), .int .u64 (l : Int), .int .i64 x] 33)).alloc (.cells #[.bool false, .int .u64 0, .int .u64 0, .int .i64 0] 34)) (w.heap.size + 1) false 0 0 0 from by simp [HoldsD, go_sem])
  refine (ten_yes 34 (by decide) _ (HT.out.below B0)).mono ?_
  rintro e w1 ⟨th, tl, P, rfl, hb1⟩
  have HP := Lib.hid P
  have B1 : Below w.heap.size w w1 := bstep B0 hb1
  replace D0 := Lib.hid (D0.out.below hb1)
  replace D1 := Lib.hid (D1.out.below hb1)
  clear hb1 P B0
  obtain ⟨⟨a1, a2, a3, a4⟩, ⟨a5, a6, a7, a8⟩, a9⟩ := D0.out
  have z1 : w.heap.size < w1.heap.size + 1 := by omega
  go_wp2_with fail
  refine (div_yes 0 0 h l th tl ww0 HA.out HP.out.1 (ten34_nv HP.out) _).mono ?_
  rintro e w2 ⟨qh, ql, ch, cl, Q, rfl, hb2⟩
  have HC := Lib.hid (show WW ch cl ∧ nv ch cl < 10 ^ 34 from ⟨Q.2.1, by have := Q.2.2.1; rw [HP.out.2] at this; exact this⟩)
  have B2 : Below w.heap.size w w2 := bstep (ballD1 B1 _) hb2
  replace D0 := Lib.hid ((D0.out.alloc _).below hb2)
  replace D1 := Lib.hid ((D1.out.alloc _).below hb2)
  clear a1 a2 a3 a4 a5 a6 a7 a8 a9 hb2 Q HP B1 z1 HT
  obtain ⟨⟨a1, a2, a3, a4⟩, ⟨a5, a6, a7, a8⟩, a9⟩ := D0.out
  have z1 : w.heap.size < w2.heap.size + 1 := by omega
  have z2 : w.heap.size < w2.heap.size + 1 + 1 := by omega
  go_upto_region 4 with fail
  have E0 := Lib.hid ((D0.out.alloc _).alloc _ : HoldsD ((w2.alloc (.cells #[.int .u64 (qh : Int), .int .u64 (ql : Int)] 31)).alloc (.cells #[.int .u64 (ch : Int), .int .u64 (cl : Int)] 31)) _ _ _ _ _)
  have E1 := Lib.hid ((D1.out.alloc _).alloc _ : HoldsD ((w2.alloc (.cells #[.int .u64 (qh : Int), .int .u64 (ql : Int)] 31)).alloc (.cells #[.int .u64 (ch : Int), .int .u64 (cl : Int)] 31)) _ _ _ _ _)
  have E2 := Lib.hid (Holds2.new2 (by simp) : Holds2 ((w2.alloc (.cells #[.int .u64 (qh : Int), .int .u64 (ql : Int)] 31)).alloc (.cells #[.int .u64 (ch : Int), .int .u64 (cl : Int)] 31)) (w2.heap.size + 1) ch cl)
  replace B2 := ballD1 (ballD1 B2 (.cells #[.int .u64 (qh : Int), .int .u64 (ql : Int)] 31)) (.cells #[.int .u64 (ch : Int), .int .u64 (cl : Int)] 31)
  have g1 : w.heap.size + 1 < w2.heap.size := D1.out.2.2
  generalize (w2.alloc (.cells #[.int .u64 (qh : Int), .int .u64 (ql : Int)] 31)).alloc (.cells #[.int .u64 (ch : Int), .int .u64 (cl : Int)] 31) = W0 at *
  clear a1 a2 a3 a4 a5 a6 a7 a8 a9 z1 z2 D0 D1
  obtain ⟨⟨a1, a2, a3, a4⟩, ⟨a5, a6, a7, a8⟩, a9⟩ := E0.out
  obtain ⟨⟨b1, b2, b3, b4⟩, ⟨b5, b6, b7, b8⟩, b9⟩ := E1.out
  obtain ⟨c1, c2, c3, c4, c5⟩ := E2.out
  have ne1 : w.heap.size + 1 ≠ w2.heap.size + 1 := by omega
  obtain ⟨b, hb⟩ : ∃ b : Bool, (b = false ∧ -6176 ≤ x ∧ x ≤ 6111 ∧ y = x) ∨ (b = true ∧ (x < -6176 ∨ 6111 < x) ∧ y = x.tmod 6000) := by
    rcases hy with k | k
    · exact ⟨false, .inl ⟨rfl, k⟩⟩
    · exact ⟨true, .inr ⟨rfl, k⟩⟩
  clear hy
  go_cut [29] (fun t W => t = .bool b ∧ W = W0)
  case first =>
    clear a1 a2 a3 a4 a5 a6 a7 a8 b1 b2 b3 b4 b5 b6 b7 b8 c1 c2 c3 c4
    rcases hb with ⟨rfl, p1, p2, rfl⟩ | ⟨rfl, p1, p2⟩
    · have t1 : decide (y < -6176) = false := decide_eq_false (by omega)
      have t2 : decide (6111 < y) = false := decide_eq_false (by omega)
      go_wp2
      go_meet
      case rel => exact ⟨rfl, rfl⟩
    · clear p2
      by_cases lo : x < -6176
      · have t1 : decide (x < -6176) = true := decide_eq_true lo
        clear p1
        go_wp2
        go_meet
        case rel => exact ⟨rfl, rfl⟩
      · have t2 : decide (6111 < x) = true := decide_eq_true (by omega)
        have t1 : decide (x < -6176) = false := decide_eq_false lo
        clear p1
        go_wp2
        go_meet
        case rel => exact ⟨rfl, rfl⟩
  case rest =>
  obtain ⟨rfl, rfl⟩ := hcut
  go_upto_if 29 with fail
  go_cut [8] (fun t W => t = .int .i64 y ∧ W = wc)
  case first =>
    clear a1 a2 a3 a4 a5 a6 a7 a8 b1 b2 b3 b4 b5 b6 b7 b8 c1 c2 c3 c4
    rcases hb with ⟨rfl, p1, p2, rfl⟩ | ⟨rfl, p1, p2⟩
    · go_wp2
      go_meet
      case rel => exact ⟨rfl, rfl⟩
    · have e1 : x.tmod 6000 = y := p2.symm
      clear p2
      by_cases hi : 6111 < x
      · have e2 : x % 6000 = y := by rw [← e1, Int.tmod_eq_emod_of_nonneg (by omega)]
        clear p1
        go_wp2
        go_meet
        case rel => exact ⟨rfl, rfl⟩
      · clear p1
        go_wp2
        go_meet
        case rel => exact ⟨rfl, rfl⟩
  case rest =>
    obtain ⟨rfl, rfl⟩ := hcut
    have E2' := HC.out
    have Z := Lib.hid (zero_any ch cl)
    have RES := Lib.hid (show WW ch cl ∧ NumD (nv ch cl) y from ⟨E2'.1, E2'.2, y1, y2⟩)
    clear hb y1 y2 E2' HC X12
    cases neg
    · have hun : undef = Value.tuple #[] := rfl
      go_wp2
      first
      | (go_region_with (first | (go_at_call 33; refine (Z.out _).mono ?_; rintro e w3 ⟨rfl, hb3⟩)))
      | fail "the region"
      all_goals
        go_wp2
        refine bodyPost_ret (v := Dv false ch cl y) (by simp [results, Tryd.results13, go_sem, *]) rfl ⟨_, _, _, _, ⟨RES.out.1, RES.out.2, fun _ => rfl⟩, rfl, ?_⟩
        clear a1 a2 a3 a4 a5 a6 a7 a8 b1 b2 b3 b4 b5 b6 b7 b8 c1 c2 c3 c4
        go_grown
    · by_cases q : nv ch cl = 0
      · rw [decide_eq_true q] at Z
        go_wp2
        go_region_with
          (first
          | (go_at_call 33; refine (Z.out _).mono ?_; rintro e w3 ⟨rfl, hb3⟩;
             have B3 := (bstep (w := w) (by repeat' (first | (with_reducible exact B2) | (with_reducible refine Below.drew ?_))) hb3 : Below w.heap.size w w3);
             have F0 := Lib.hid (HoldsD.below (by repeat' (first | (with_reducible exact E0.out) | (with_reducible refine HoldsD.drew' ?_))) hb3 : HoldsD w3 w.heap.size true h l x);
             have F1 := Lib.hid (HoldsD.below (by repeat' (first | (with_reducible exact E1.out) | (with_reducible refine HoldsD.drew' ?_))) hb3 : HoldsD w3 (w.heap.size + 1) false 0 0 0);
             have F2 := Lib.hid (Holds2.below (by repeat' (first | (with_reducible exact E2.out) | (with_reducible refine Holds2.drew ?_))) hb3 : Holds2 w3 (w2.heap.size + 1) ch cl);
             clear hb3;
             obtain ⟨⟨d1, d2, d3, d4⟩, ⟨d5, d6, d7, d8⟩, d9⟩ := F0.out;
             obtain ⟨⟨f1, f2, f3, f4⟩, ⟨f5, f6, f7, f8⟩, f9⟩ := F1.out;
             obtain ⟨i1, i2, i3, i4, i5⟩ := F2.out))
        all_goals
          go_wp2
          refine bodyPost_ret (v := Dv false ch cl y) (by simp [results, Tryd.results13, go_sem, *]) rfl ⟨_, _, _, _, ⟨RES.out.1, RES.out.2, fun _ => rfl⟩, rfl, ?_⟩
          clear a1 a2 a3 a4 a5 a6 a7 a8 b1 b2 b3 b4 b5 b6 b7 b8 c1 c2 c3 c4 d1 d2 d3 d4 d5 d6 d7 d8 f1 f2 f3 f4 f5 f6 f7 f8 i1 i2 i3 i4
          go_grown
      · rw [decide_eq_false q] at Z
        have QN := Lib.hid q
        clear q
        go_wp2
        go_region_with
          (first
          | (go_at_call 33; refine (Z.out _).mono ?_; rintro e w3 ⟨rfl, hb3⟩;
             have B3 := (bstep (w := w) (by repeat' (first | (with_reducible exact B2) | (with_reducible refine Below.drew ?_))) hb3 : Below w.heap.size w w3);
             have F0 := Lib.hid (HoldsD.below (by repeat' (first | (with_reducible exact E0.out) | (with_reducible refine HoldsD.drew' ?_))) hb3 : HoldsD w3 w.heap.size true h l x);
             have F1 := Lib.hid (HoldsD.below (by repeat' (first | (with_reducible exact E1.out) | (with_reducible refine HoldsD.drew' ?_))) hb3 : HoldsD w3 (w.heap.size + 1) false 0 0 0);
             have F2 := Lib.hid (Holds2.below (by repeat' (first | (with_reducible exact E2.out) | (with_reducible refine Holds2.drew ?_))) hb3 : Holds2 w3 (w2.heap.size + 1) ch cl);
             clear hb3;
             obtain ⟨⟨d1, d2, d3, d4⟩, ⟨d5, d6, d7, d8⟩, d9⟩ := F0.out;
             obtain ⟨⟨f1, f2, f3, f4⟩, ⟨f5, f6, f7, f8⟩, f9⟩ := F1.out;
             obtain ⟨i1, i2, i3, i4, i5⟩ := F2.out))
        all_goals
          go_wp2
          refine bodyPost_ret (v := Dv true ch cl y) (by simp [results, Tryd.results13, go_sem, *]) rfl ⟨_, _, _, _, ⟨RES.out.1, RES.out.2, fun k => absurd k QN.out⟩, rfl, ?_⟩
          clear a1 a2 a3 a4 a5 a6 a7 a8 b1 b2 b3 b4 b5 b6 b7 b8 c1 c2 c3 c4 d1 d2 d3 d4 d5 d6 d7 d8 f1 f2 f3 f4 f5 f6 f7 f8 i1 i2 i3 i4
          go_grown

set_option maxHeartbeats 400000 in
theorem int_yes (x : Nat) (hx : (x : Int) ≤ 9223372036854775807) (w : World) : Calls Tryd.prog 18 #[.int .i64 (x : Int)] w (RetD (fun n h' l' x' => n = false ∧ h' = 0 ∧ l' = x ∧ x' = 0) w) := by
  have t1 : decide ((x : Int) < 0) = false := decide_eq_false (by omega)
  have e1 : IntKind.u64.wrap (x : Int) = (x : Int) := by rw [IntKind.wrap_u64]; omega
  clear hx
  go_enter Tryd.func18, Tryd.ntmps18
  go_wp2_with fail
  refine (wof_any x _).mono ?_
  rintro e w1 ⟨rfl, o, rfl⟩
  go_wp2
  refine bodyPost_ret (v := Dv false 0 x 0) (by simp [results, Tryd.results18, go_sem, *]) rfl ⟨_, _, _, _, ⟨rfl, rfl, rfl, rfl⟩, rfl, ?_⟩
  go_grown
set_option maxHeartbeats 400000 in
theorem int_neg (x : Nat) (hx : (x : Int) ≤ 9223372036854775808) (h0 : 0 < x) (w : World) : Calls Tryd.prog 18 #[.int .i64 (-(x : Int))] w (RetD (fun n h' l' x' => n = true ∧ h' = 0 ∧ l' = x ∧ x' = 0) w) := by
  obtain ⟨y, hy⟩ : ∃ y : Int, y = -(x : Int) := ⟨_, rfl⟩
  obtain ⟨u, hu⟩ : ∃ u : Int, u = 18446744073709551616 - (x : Int) := ⟨_, rfl⟩
  rw [← hy]
  have t1 : decide (y < 0) = true := decide_eq_true (by omega)
  have e1 : IntKind.u64.wrap y = u := by rw [IntKind.wrap_u64]; omega
  have e2 : IntKind.u64.wrap (-u) = (x : Int) := by rw [IntKind.wrap_u64]; omega
  clear hx hy hu h0
  go_enter Tryd.func18, Tryd.ntmps18
  go_wp2_with fail
  refine (wof_any x _).mono ?_
  rintro e w1 ⟨rfl, o, rfl⟩
  go_wp2
  refine bodyPost_ret (v := Dv true 0 x 0) (by simp [results, Tryd.results18, go_sem, *]) rfl ⟨_, _, _, _, ⟨rfl, rfl, rfl, rfl⟩, rfl, ?_⟩
  go_grown
end Go.Proofs.YtkkddflclakphaaDoor
