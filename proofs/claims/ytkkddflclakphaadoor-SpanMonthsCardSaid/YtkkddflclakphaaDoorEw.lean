/-
  A number's size as a whole number, and a number as an int, where the exponent is not below 0 (wholeSize, Whole of package dec), each as a contract of its call.
-/
import Derived.Test.YtkkddflclakphaaDoorEm
namespace Go.Proofs.YtkkddflclakphaaDoor
open Go.RowKit

def RetUB1 (F : Nat → Nat → Bool → Prop) (w : World) (e : Ending) (w' : World) : Prop := ∃ h l b, F h l b ∧ e = .returned (.tuple #[U h l, .bool b]) ∧ Below w.heap.size w w'

set_option maxRecDepth 100000 in
set_option maxHeartbeats 4000000 in
theorem wholeSize_up (neg : Bool) (h l : Nat) (k : Nat) (ha : WW h l) (hz : nv h l ≠ 0) (hk : k ≤ 38) (hp : nv h l * 10 ^ k < B128) (w : World) (ht : Tab w) :
    Calls Tryd.prog 65 #[Dv neg h l (k : Int)] w (RetUB1 (fun a b ok => WW a b ∧ nv a b = nv h l * 10 ^ k ∧ ok = true) w) := by
  have HT := Lib.hid ht
  have HA := Lib.hid ha
  have HP := Lib.hid hp
  have Z := Lib.hid (zeroD_any neg h l (k : Int))
  rw [decide_eq_false hz] at Z
  have t1 : decide ((k : Int) < 0) = false := decide_eq_false (by omega)
  clear ht ha hz hp
  go_enter Tryd.func65, Tryd.ntmps65
  go_wp2_with fail
  refine (Z.out _).mono ?_
  rintro e w1 ⟨rfl, hb1⟩
  have B1 : Below w.heap.size w w1 := bstep (by go_grown) hb1
  have D0 := Lib.hid ((show HoldsD _ w.heap.size neg h l (k : Int) from by simp [HoldsD, go_sem]).below hb1)
  have D1 := Lib.hid ((show Holds2 _ (w.heap.size + 1) 0 0 from by simp [Holds2, go_sem]).below hb1)
  clear hb1 Z
  obtain ⟨⟨a1, a2, a3, a4⟩, ⟨a5, a6, a7, a8⟩, a9⟩ := D0.out
  go_wp2_with fail
  refine (ten_yes k hk _ (HT.out.below B1)).mono ?_
  rintro e w2 ⟨th, tl, P, rfl, hb2⟩
  have HQ := Lib.hid P
  have B2 : Below w.heap.size w w2 := bstep B1 hb2
  replace D0 := Lib.hid (D0.out.below hb2)
  replace D1 := Lib.hid (D1.out.below hb2)
  clear hb2 P B1 a1 a2 a3 a4 a5 a6 a7 a8 a9
  obtain ⟨⟨a1, a2, a3, a4⟩, ⟨a5, a6, a7, a8⟩, a9⟩ := D0.out
  have z1 : w.heap.size < w2.heap.size + 1 := by omega
  go_wp2_with fail
  refine (mul_any h l th tl HA.out HQ.out.1 _).mono ?_
  rintro e w3 ⟨ph, pl, qh, ql, P, rfl, hb3⟩
  obtain ⟨y1, y2, y3⟩ := low_half P.2.1 (by have v := P.2.2; rw [HQ.out.2] at v; exact v) HP.out
  have R := Lib.hid (show WW qh ql ∧ nv qh ql = nv h l * 10 ^ k from ⟨P.2.1, y3⟩)
  subst y1 y2
  have B3 : Below w.heap.size w w3 := bstep (ballD1 B2 _) hb3
  replace D1 := Lib.hid ((D1.out.alloc _).below hb3)
  clear hb3 P y3 B2 a1 a2 a3 a4 a5 a6 a7 a8 a9 z1 D0 HQ HP HA HT
  go_upto_region 11 with fail
  have B4 := ballD1 (ballD1 B3 (.cells #[.int .u64 0, .int .u64 0] 31)) (.cells #[.int .u64 (qh : Int), .int .u64 (ql : Int)] 31)
  have E0 := Lib.hid ((Holds2.new2 (h := 0) (l := 0) rfl).alloc _ : Holds2 ((w3.alloc (.cells #[.int .u64 0, .int .u64 0] 31)).alloc (.cells #[.int .u64 (qh : Int), .int .u64 (ql : Int)] 31)) w3.heap.size 0 0)
  have E1 := Lib.hid (Holds2.new2 (by simp) : Holds2 ((w3.alloc (.cells #[.int .u64 0, .int .u64 0] 31)).alloc (.cells #[.int .u64 (qh : Int), .int .u64 (ql : Int)] 31)) (w3.heap.size + 1) qh ql)
  have E2 := Lib.hid ((D1.out.alloc _).alloc _ : Holds2 ((w3.alloc (.cells #[.int .u64 0, .int .u64 0] 31)).alloc (.cells #[.int .u64 (qh : Int), .int .u64 (ql : Int)] 31)) (w.heap.size + 1) 0 0)
  have g1 : w.heap.size + 1 < w3.heap.size := D1.out.2.2.2.2
  generalize ((w3.alloc (.cells #[.int .u64 0, .int .u64 0] 31)).alloc (.cells #[.int .u64 (qh : Int), .int .u64 (ql : Int)] 31)) = V4 at *
  have Z := Lib.hid (zero_t (h := 0) (l := 0) (by decide))
  obtain ⟨a1, a2, -, -, a5⟩ := E0.out
  obtain ⟨b1, b2, -, -, b5⟩ := E1.out
  obtain ⟨c1, c2, c3, c4, c5⟩ := E2.out
  clear B3 D1
  go_region_with
    (first
      | (go_at_call 33; refine (Z.out _).mono ?_; rintro e w5 ⟨rfl, hb5⟩;
         have B5 := (bstep (w := w) (by repeat' (first | (with_reducible exact B4) | (with_reducible refine Below.drew ?_))) hb5 : Below w.heap.size w w5);
         have F1 := Lib.hid (Holds2.below (by repeat' (first | (with_reducible exact E1.out) | (with_reducible refine Holds2.drew ?_))) hb5 : Holds2 w5 (w3.heap.size + 1) qh ql);
         have F2 := Lib.hid (Holds2.below (by repeat' (first | (with_reducible exact E2.out) | (with_reducible refine Holds2.drew ?_))) hb5 : Holds2 w5 (w.heap.size + 1) 0 0);
         clear hb5;
         obtain ⟨d1, d2, -, -, d5⟩ := F1.out;
         obtain ⟨f1, f2, f3, f4, f5⟩ := F2.out))
  all_goals
    go_wp2
    refine bodyPost_ret (v := .tuple #[U qh ql, .bool true]) (by simp [results, Tryd.results65, go_sem, *]) rfl ⟨_, _, _, ⟨R.out.1, R.out.2, rfl⟩, rfl, ?_⟩
    clear a1 a2 b1 b2 c1 c2 c3 c4 d1 d2 f1 f2 f3 f4
    go_grown

set_option maxRecDepth 100000 in
set_option maxHeartbeats 4000000 in
theorem whole_up (h l : Nat) (k : Nat) (ha : WW h l) (hz : nv h l ≠ 0) (hk : k ≤ 38) (hp : nv h l * 10 ^ k < 9223372036854775808) (w : World) (ht : Tab w) :
    Calls Tryd.prog 36 #[Dv false h l (k : Int)] w fun e w' => e = .returned (.tuple #[.int .i64 ((nv h l * 10 ^ k : Nat) : Int), .bool true]) ∧ Below w.heap.size w w' := by
  have HT := Lib.hid ht
  have WS := Lib.hid (wholeSize_up false h l k ha hz hk (Nat.lt_trans hp (by unfold B128; decide)))
  obtain ⟨n, hn⟩ : ∃ n, n = nv h l * 10 ^ k := ⟨_, rfl⟩
  rw [← hn] at hp WS
  rw [← hn]
  have HP := Lib.hid hp
  have e1 : IntKind.i64.wrap (n : Int) = (n : Int) := by rw [IntKind.wrap_i64]; omega
  clear ht ha hz hp hn hk
  go_enter Tryd.func36, Tryd.ntmps36
  go_wp2_with fail
  refine (WS.out _ (HT.out.below (by go_grown))).mono ?_
  rintro e w1 ⟨a, b, ok, ⟨q1, q2, rfl⟩, rfl, hb1⟩
  obtain ⟨y1, y2⟩ : a = 0 ∧ b = n := by have := HP.out; unfold nv at q2; omega
  subst y1 y2
  have B1 : Below w.heap.size w w1 := bstep (by go_grown) hb1
  have D0 := Lib.hid ((show HoldsD _ w.heap.size false h l (k : Int) from by simp [HoldsD, go_sem]).below hb1)
  clear hb1 q2 WS
  obtain ⟨⟨a1, -, -, -⟩, -, a9⟩ := D0.out
  have z1 : w.heap.size < w1.heap.size + 1 := by omega
  go_upto_region 7 with fail
  obtain ⟨cv, hcv⟩ : ∃ cv, cv = cmpN (nv 0 b) (nv 0 9223372036854775807) := ⟨_, rfl⟩
  have CM := Lib.hid (wcmp_any 0 b 0 9223372036854775807 q1 ⟨by decide, by decide⟩)
  rw [← hcv] at CM
  have tc : decide (0 < cv) = false := by
    rcases cmpN_range (nv 0 b) (nv 0 9223372036854775807) with ⟨e, _⟩ | ⟨e, _⟩ | ⟨e, e'⟩
    · rw [hcv, e]; decide
    · rw [hcv, e]; decide
    · exfalso
      have := HP.out
      unfold nv at e'
      omega
  have E0 := Lib.hid (Holds2.new2 rfl : Holds2 (w1.alloc (.cells #[.int .u64 0, .int .u64 (b : Int)] 31)) w1.heap.size 0 b)
  have E1 := Lib.hid (D0.out.alloc (.cells #[.int .u64 0, .int .u64 (b : Int)] 31))
  replace B1 := ballD1 B1 (.cells #[.int .u64 0, .int .u64 (b : Int)] 31)
  generalize w1.alloc (.cells #[.int .u64 0, .int .u64 (b : Int)] 31) = V1 at *
  clear hcv a1 a9 z1 D0 q1 HT
  obtain ⟨c1, c2, -, -, c5⟩ := E0.out
  go_cut [22] (fun t W => t = .bool false ∧ Holds2 W w1.heap.size 0 b ∧ HoldsD W w.heap.size false h l (k : Int) ∧ Below w.heap.size w W)
  case first =>
    go_region_with
      (first
        | (go_at_call 30; refine (wof_any 9223372036854775807 _).mono ?_; rintro e w' ⟨rfl, o1, rfl⟩)
        | (go_at_call 58; refine (CM.out _).mono ?_; rintro e w5 ⟨rfl, hb5⟩;
           have B5 := (bstep (w := w) (by repeat' (first | (with_reducible exact B1) | (with_reducible refine ballD1 ?_ _) | (with_reducible refine Below.drew ?_))) hb5 : Below w.heap.size w w5);
           have F1 := Lib.hid (Holds2.below (by repeat' (first | (with_reducible exact E0.out) | (with_reducible refine Holds2.alloc ?_ _) | (with_reducible refine Holds2.drew ?_))) hb5 : Holds2 w5 w1.heap.size 0 b);
           have F2 := Lib.hid (HoldsD.below (by repeat' (first | (with_reducible exact E1.out) | (with_reducible refine HoldsD.alloc ?_ _) | (with_reducible refine HoldsD.drew' ?_))) hb5 : HoldsD w5 w.heap.size false h l (k : Int));
           clear hb5))
    all_goals
      go_wp2
      go_meet
      case rel => exact ⟨rfl, F1.out, F2.out, B5⟩
  case rest =>
    obtain ⟨rfl, A1, A2, B5⟩ := hcut
    clear c1 c2 c5 E0 E1 B1
    obtain ⟨a1, a2, a3, a4, a5⟩ := A1
    obtain ⟨⟨b1, -, -, -⟩, -, b9⟩ := A2
    go_wp2
    go_ret2
    exact ⟨rfl, B5⟩
end Go.Proofs.YtkkddflclakphaaDoor
