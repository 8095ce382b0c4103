/-
  A number's size, and whether it is whole and of 128 bits; a number as an int (wholeSize and Whole of package dec), each as a contract of its call, for all numbers.
-/
import Derived.Test.YtkkddflclakphaaDoorEw
import Derived.Test.YtkkddflclakphaaDoorAc
import Derived.Deep.RegionHeld3
namespace Go.Proofs.YtkkddflclakphaaDoor
open Go.RowKit

/-- Whether a size is whole and of 128 bits; which it is. -/
def wsB (c : Nat) (x : Int) : Bool := decide (c = 0) || (if x < 0 then decide (-x ≤ 38) && decide (c % 10 ^ (-x).toNat = 0) else decide (x ≤ 38) && decide (c * 10 ^ x.toNat < B128))
def wsN (c : Nat) (x : Int) : Nat := if x < 0 then c / 10 ^ (-x).toNat else c * 10 ^ x.toNat

theorem keep22 {W w' : World} {g k : Nat} {v0 v1 v2 v3 : Value} (hb : Below W.heap.size W w') (h : W.cell? ⟨g, 0, none⟩ = some v0 ∧ W.cell? ⟨g, 1, none⟩ = some v1 ∧ W.cell? ⟨k, 0, none⟩ = some v2 ∧ W.cell? ⟨k, 1, none⟩ = some v3) : w'.cell? ⟨g, 0, none⟩ = some v0 ∧ w'.cell? ⟨g, 1, none⟩ = some v1 ∧ w'.cell? ⟨k, 0, none⟩ = some v2 ∧ w'.cell? ⟨k, 1, none⟩ = some v3 := ⟨keepCell2 h.1 hb, keepCell2 h.2.1 hb, keepCell2 h.2.2.1 hb, keepCell2 h.2.2.2 hb⟩
theorem keep22d {W : World} {g k : Nat} {v0 v1 v2 v3 : Value} (h : W.cell? ⟨g, 0, none⟩ = some v0 ∧ W.cell? ⟨g, 1, none⟩ = some v1 ∧ W.cell? ⟨k, 0, none⟩ = some v2 ∧ W.cell? ⟨k, 1, none⟩ = some v3) : W.drew.cell? ⟨g, 0, none⟩ = some v0 ∧ W.drew.cell? ⟨g, 1, none⟩ = some v1 ∧ W.drew.cell? ⟨k, 0, none⟩ = some v2 ∧ W.drew.cell? ⟨k, 1, none⟩ = some v3 := h
theorem keep22s {W : World} {g k : Nat} {v0 v1 v2 v3 : Value} {p : Addr} {u : Value} (hg : g ≠ p.block) (hk : k ≠ p.block) (h : W.cell? ⟨g, 0, none⟩ = some v0 ∧ W.cell? ⟨g, 1, none⟩ = some v1 ∧ W.cell? ⟨k, 0, none⟩ = some v2 ∧ W.cell? ⟨k, 1, none⟩ = some v3) : (W.setCell p u).cell? ⟨g, 0, none⟩ = some v0 ∧ (W.setCell p u).cell? ⟨g, 1, none⟩ = some v1 ∧ (W.setCell p u).cell? ⟨k, 0, none⟩ = some v2 ∧ (W.setCell p u).cell? ⟨k, 1, none⟩ = some v3 := ⟨keepSet h.1 hg, keepSet h.2.1 hg, keepSet h.2.2.1 hk, keepSet h.2.2.2 hk⟩
theorem decide_iff_eq {p q : Prop} [Decidable p] [Decidable q] (h : p ↔ q) : decide p = decide q := decide_eq_decide.2 h
theorem hi_half0 (K p q N : Nat) (a : q < K) (e : p * K + q = N) : (p = 0 ↔ N < K) ∧ (p = 0 → q = N) := by
  rcases Nat.eq_zero_or_pos p with z | z
  · subst z
    rw [Nat.zero_mul, Nat.zero_add] at e
    exact ⟨⟨fun _ => by omega, fun _ => rfl⟩, fun _ => e⟩
  · have := Nat.le_mul_of_pos_left K z
    exact ⟨⟨fun k => by omega, fun k => by omega⟩, fun k => by omega⟩
theorem hi_half {ph pl qh ql N : Nat} (hq : WW qh ql) (e : nv2 ph pl qh ql = N) : (nv ph pl = 0 ↔ N < B128) ∧ (nv ph pl = 0 → nv qh ql = N) :=
  hi_half0 B128 _ _ _ (nv_lt hq) e

set_option maxRecDepth 100000 in
set_option maxHeartbeats 8000000 in
theorem wsz_zero (neg : Bool) (h l : Nat) (x : Int) (ha : WW h l) (hz : nv h l = 0) (w : World) (ht : Tab w) :
    Calls Tryd.prog 65 #[Dv neg h l x] w (RetUB1 (fun a b ok => WW a b ∧ ok = wsB (nv h l) x ∧ (ok = true → nv a b = wsN (nv h l) x)) w) := by
  have HT := Lib.hid ht
  have HA := Lib.hid ha
  have Z := Lib.hid (zeroD_any neg h l x)
  clear ht ha
  rw [decide_eq_true hz] at Z
  have HZ := Lib.hid hz
  clear hz
  go_enter Tryd.func65, Tryd.ntmps65
  go_wp2_with fail
  refine (Z.out _).mono ?_
  rintro e w1 ⟨rfl, hb1⟩
  have B1 : Below w.heap.size w w1 := bstep (by go_grown) hb1
  have D1 := Lib.hid ((show Holds2 _ (w.heap.size + 1) 0 0 from by simp [Holds2, go_sem]).below hb1)
  clear hb1 Z
  obtain ⟨c1, c2, c3, c4, c5⟩ := D1.out
  go_wp2
  refine bodyPost_ret (v := .tuple #[U 0 0, .bool true]) (by simp [results, Tryd.results65, go_sem, *]) rfl ⟨_, _, _, ⟨⟨by decide, by decide⟩, ?_, fun _ => ?_⟩, rfl, ?_⟩
  · unfold wsB; rw [HZ.out]; rfl
  · unfold wsN; rw [HZ.out]; split <;> simp [nv]
  · clear c1 c2 c3 c4
    go_grown

set_option maxRecDepth 100000 in
set_option maxHeartbeats 8000000 in
theorem wsz_far (neg : Bool) (h l : Nat) (x : Int) (ha : WW h l) (x1 : -6176 ≤ x) (x2 : x ≤ 6111) (hz : nv h l ≠ 0) (neg0 : x < 0) (big : 38 < -x) (w : World) (ht : Tab w) :
    Calls Tryd.prog 65 #[Dv neg h l x] w (RetUB1 (fun a b ok => WW a b ∧ ok = wsB (nv h l) x ∧ (ok = true → nv a b = wsN (nv h l) x)) w) := by
  have HT := Lib.hid ht
  have HA := Lib.hid ha
  have Z := Lib.hid (zeroD_any neg h l x)
  clear ht ha
  rw [decide_eq_false hz] at Z
  have HZ := Lib.hid hz
  clear hz
  have t1 : decide (x < 0) = true := decide_eq_true neg0
  have e1 : IntKind.i64.wrap (-x) = -x := by rw [IntKind.wrap_i64]; omega
  have TN := Lib.hid (ten_no (-x) (.inr big))
  have HB := Lib.hid (And.intro neg0 big)
  clear big neg0 x1 x2
  go_enter Tryd.func65, Tryd.ntmps65
  go_wp2_with fail
  refine (Z.out _).mono ?_
  rintro e w1 ⟨rfl, hb1⟩
  have B1 : Below w.heap.size w w1 := bstep (by go_grown) hb1
  have D0 := Lib.hid ((show HoldsD _ w.heap.size neg h l x from by simp [HoldsD, go_sem]).below hb1)
  have D1 := Lib.hid ((show Holds2 _ (w.heap.size + 1) 0 0 from by simp [Holds2, go_sem]).below hb1)
  clear hb1 Z
  obtain ⟨⟨a1, a2, a3, a4⟩, -, a9⟩ := D0.out
  go_wp2_with fail
  refine (TN.out _).mono ?_
  rintro e w2 ⟨rfl, hb2⟩
  replace B1 := bstep B1 hb2
  replace D1 := Lib.hid (D1.out.below hb2)
  clear hb2 a1 a2 a3 a4 a9 D0 TN
  obtain ⟨c1, c2, c3, c4, c5⟩ := D1.out
  have z1 : w.heap.size + 1 < w2.heap.size + 1 := by omega
  go_wp2
  refine bodyPost_ret (v := .tuple #[U 0 0, .bool false]) (by simp [results, Tryd.results65, go_sem, *]) rfl ⟨_, _, _, ⟨⟨by decide, by decide⟩, ?_, fun k => (by cases k)⟩, rfl, ?_⟩
  · unfold wsB; rw [decide_eq_false HZ.out, if_pos HB.out.1, decide_eq_false (by have := HB.out.2; omega)]; rfl
  · clear c1 c2 c3 c4
    go_grown

set_option maxRecDepth 100000 in
set_option maxHeartbeats 8000000 in
theorem wsz_down (neg : Bool) (h l : Nat) (x : Int) (ha : WW h l) (x1 : -6176 ≤ x) (x2 : x ≤ 6111) (hz : nv h l ≠ 0) (neg0 : x < 0) (big : ¬ 38 < -x) (w : World) (ht : Tab w) :
    Calls Tryd.prog 65 #[Dv neg h l x] w (RetUB1 (fun a b ok => WW a b ∧ ok = wsB (nv h l) x ∧ (ok = true → nv a b = wsN (nv h l) x)) w) := by
  have HT := Lib.hid ht
  have HA := Lib.hid ha
  have Z := Lib.hid (zeroD_any neg h l x)
  clear ht ha
  rw [decide_eq_false hz] at Z
  have HZ := Lib.hid hz
  clear hz
  have t1 : decide (x < 0) = true := decide_eq_true neg0
  have e1 : IntKind.i64.wrap (-x) = -x := by rw [IntKind.wrap_i64]; omega
  obtain ⟨k, hk⟩ : ∃ k : Nat, -x = (k : Int) := ⟨(-x).toNat, by omega⟩
  have k38 : k ≤ 38 := by omega
  have HB := Lib.hid (And.intro neg0 (And.intro hk k38))
  have TY := Lib.hid (ten_yes k k38)
  rw [← hk] at TY
  clear big neg0 x1 x2 hk k38
  go_enter Tryd.func65, Tryd.ntmps65
  go_wp2_with fail
  refine (Z.out _).mono ?_
  rintro e w1 ⟨rfl, hb1⟩
  have B1 : Below w.heap.size w w1 := bstep (by go_grown) hb1
  have D0 := Lib.hid ((show HoldsD _ w.heap.size neg h l x from by simp [HoldsD, go_sem]).below hb1)
  have D1 := Lib.hid ((show Holds2 _ (w.heap.size + 1) 0 0 from by simp [Holds2, go_sem]).below hb1)
  clear hb1 Z
  obtain ⟨⟨a1, a2, a3, a4⟩, -, a9⟩ := D0.out
  go_wp2_with fail
  refine (TY.out _ (HT.out.below B1)).mono ?_
  rintro e w2 ⟨th, tl, P, rfl, hb2⟩
  have TP := Lib.hid P
  replace B1 := bstep B1 hb2
  replace D0 := Lib.hid (D0.out.below hb2)
  replace D1 := Lib.hid (D1.out.below hb2)
  clear hb2 a1 a2 a3 a4 a9 TY P
  obtain ⟨⟨a1, a2, a3, a4⟩, -, a9⟩ := D0.out
  have z1 : w.heap.size < w2.heap.size + 1 := by omega
  have DV := Lib.hid (div_yes 0 0 h l th tl ⟨by decide, by decide⟩ HA.out TP.out.1 (by rw [TP.out.2, show nv 0 0 = 0 from rfl]; exact p10 k))
  go_wp2_with fail
  refine (DV.out _).mono ?_
  rintro e w3 ⟨qh, ql, rh, rl, Q, rfl, hb3⟩
  have HQ := Lib.hid Q
  replace B1 := bstep (ballD1 B1 (.cells #[.int .u64 (th : Int), .int .u64 (tl : Int)] 31)) hb3
  replace D1 := Lib.hid ((D1.out.alloc (.cells #[.int .u64 (th : Int), .int .u64 (tl : Int)] 31)).below hb3)
  clear hb3 a1 a2 a3 a4 a9 z1 D0 DV Q
  go_upto_region 8 with fail
  have E0 := Lib.hid ((Holds2.new2 rfl).alloc _ : Holds2 ((w3.alloc (.cells #[.int .u64 (qh : Int), .int .u64 (ql : Int)] 31)).alloc (.cells #[.int .u64 (rh : Int), .int .u64 (rl : Int)] 31)) w3.heap.size qh ql)
  have E1 := Lib.hid (Holds2.new2 (by simp) : Holds2 ((w3.alloc (.cells #[.int .u64 (qh : Int), .int .u64 (ql : Int)] 31)).alloc (.cells #[.int .u64 (rh : Int), .int .u64 (rl : Int)] 31)) (w3.heap.size + 1) rh rl)
  have E2 := Lib.hid ((D1.out.alloc (.cells #[.int .u64 (qh : Int), .int .u64 (ql : Int)] 31)).alloc (.cells #[.int .u64 (rh : Int), .int .u64 (rl : Int)] 31))
  replace B1 := ballD1 (ballD1 B1 (.cells #[.int .u64 (qh : Int), .int .u64 (ql : Int)] 31)) (.cells #[.int .u64 (rh : Int), .int .u64 (rl : Int)] 31)
  have g1 : w.heap.size + 1 < w3.heap.size := D1.out.2.2.2.2
  generalize (w3.alloc (.cells #[.int .u64 (qh : Int), .int .u64 (ql : Int)] 31)).alloc (.cells #[.int .u64 (rh : Int), .int .u64 (rl : Int)] 31) = V4 at *
  clear D1
  obtain ⟨bz, hbz⟩ : ∃ b, b = decide (nv rh rl = 0) := ⟨_, rfl⟩
  have ZR := Lib.hid (zero_any rh rl)
  rw [← hbz] at ZR
  have HBZ := Lib.hid hbz
  clear hbz
  obtain ⟨a1, a2, -, -, a5⟩ := E0.out
  obtain ⟨b1, b2, -, -, b5⟩ := E1.out
  obtain ⟨c1, c2, c3, c4, c5⟩ := E2.out
  all_goals
    go_region_held3 (fun w' => w'.cell? ⟨w3.heap.size, 0, none⟩ = some (.int .u64 (qh : Int)) ∧ w'.cell? ⟨w3.heap.size, 1, none⟩ = some (.int .u64 (ql : Int)) ∧ w'.cell? ⟨w3.heap.size + 1, 0, none⟩ = some (.int .u64 (rh : Int)) ∧ w'.cell? ⟨w3.heap.size + 1, 1, none⟩ = some (.int .u64 (rl : Int)))
      (repeat' (first | (with_reducible assumption) | (with_reducible refine keep22d ?_) | (with_reducible refine keep22s ?_ ?_ ?_) | (with_reducible exact ⟨a1, a2, b1, b2⟩) | (with_reducible refine keep22 (by with_reducible assumption) ?_) | (show _ ≠ _; (try dsimp only); omega)))
      (first
        | (go_at_call 33; (with_reducible refine (ZR.out _).mono ?_); rintro e w5 ⟨rfl, hb5⟩; (first | obtain ⟨hc5, hf5⟩ := bcell (bundrew hb5) | obtain ⟨hc5, hf5⟩ := bcell hb5); have sz5 := hb5.size; (try simp only [World.size_drew] at sz5)))
    all_goals
      go_wp2
      refine bodyPost_ret (v := .tuple #[U qh ql, .bool bz]) (by simp [results, Tryd.results65, go_sem, *]) rfl ⟨_, _, _, ⟨HQ.out.1, ?_, fun _ => ?_⟩, rfl, ?_⟩
      · obtain ⟨-, -, q3, q4⟩ := HQ.out
        refine HBZ.out.trans ?_
        unfold wsB
        rw [decide_eq_false HZ.out, if_pos HB.out.1, HB.out.2.1, Int.toNat_natCast, decide_eq_true (show ((k : Nat) : Int) ≤ 38 by have := HB.out.2.2; omega)]
        rw [TP.out.2] at q3 q4
        rw [nv2_low] at q4
        rw [← q4, Nat.add_comm, Nat.add_mul_mod_self_right, Nat.mod_eq_of_lt q3, Bool.false_or, Bool.true_and]
      · obtain ⟨-, -, q3, q4⟩ := HQ.out
        unfold wsN
        rw [if_pos HB.out.1, HB.out.2.1, Int.toNat_natCast]
        rw [TP.out.2] at q3 q4
        rw [nv2_low] at q4
        rw [← q4, Nat.add_comm, Nat.add_mul_div_right _ _ (p10 k), Nat.div_eq_of_lt q3, Nat.zero_add]
      · clear a1 a2 b1 b2 c1 c2 c3 c4 hc5 hf5
        repeat' (first | (with_reducible exact B1) | (with_reducible refine Below.drew ?_) | (with_reducible refine Below.set1' ?_ _ _ ?_ _) | (with_reducible refine bstep ?_ (by with_reducible assumption)) | omega)

set_option maxRecDepth 100000 in
set_option maxHeartbeats 8000000 in
theorem wsz_high (neg : Bool) (h l : Nat) (x : Int) (ha : WW h l) (hz : nv h l ≠ 0) (neg0 : ¬ x < 0) (big : 38 < x) (w : World) (ht : Tab w) :
    Calls Tryd.prog 65 #[Dv neg h l x] w (RetUB1 (fun a b ok => WW a b ∧ ok = wsB (nv h l) x ∧ (ok = true → nv a b = wsN (nv h l) x)) w) := by
  have HT := Lib.hid ht
  have HA := Lib.hid ha
  have Z := Lib.hid (zeroD_any neg h l x)
  clear ht ha
  rw [decide_eq_false hz] at Z
  have HZ := Lib.hid hz
  clear hz
  have t1 : decide (x < 0) = false := decide_eq_false neg0
  have TN := Lib.hid (ten_no x (.inr big))
  have HB := Lib.hid (And.intro neg0 big)
  have MU := Lib.hid (mul_any h l 0 0 HA.out ⟨by decide, by decide⟩)
  clear big neg0
  go_enter Tryd.func65, Tryd.ntmps65
  go_wp2_with fail
  refine (Z.out _).mono ?_
  rintro e w1 ⟨rfl, hb1⟩
  have B1 : Below w.heap.size w w1 := bstep (by go_grown) hb1
  have D0 := Lib.hid ((show HoldsD _ w.heap.size neg h l x from by simp [HoldsD, go_sem]).below hb1)
  have D1 := Lib.hid ((show Holds2 _ (w.heap.size + 1) 0 0 from by simp [Holds2, go_sem]).below hb1)
  clear hb1 Z
  obtain ⟨⟨a1, a2, a3, a4⟩, -, a9⟩ := D0.out
  go_wp2_with fail
  refine (TN.out _).mono ?_
  rintro e w2 ⟨rfl, hb2⟩
  replace B1 := bstep B1 hb2
  replace D0 := Lib.hid (D0.out.below hb2)
  replace D1 := Lib.hid (D1.out.below hb2)
  clear hb2 a1 a2 a3 a4 a9 TN
  obtain ⟨⟨a1, a2, a3, a4⟩, -, a9⟩ := D0.out
  have z1 : w.heap.size < w2.heap.size + 1 := by omega
  go_wp2_with fail
  refine (MU.out _).mono ?_
  rintro e w3 ⟨ph, pl, qh, ql, P, rfl, hb3⟩
  have HQ := Lib.hid P
  replace B1 := bstep (ballD1 B1 (.cells #[.int .u64 0, .int .u64 0] 31)) hb3
  replace D1 := Lib.hid ((D1.out.alloc (.cells #[.int .u64 0, .int .u64 0] 31)).below hb3)
  clear hb3 a1 a2 a3 a4 a9 z1 D0 MU P
  go_upto_region 11 with fail
  have E0 := Lib.hid ((Holds2.new2 rfl).alloc _ : Holds2 ((w3.alloc (.cells #[.int .u64 (ph : Int), .int .u64 (pl : Int)] 31)).alloc (.cells #[.int .u64 (qh : Int), .int .u64 (ql : Int)] 31)) w3.heap.size ph pl)
  have E1 := Lib.hid (Holds2.new2 (by simp) : Holds2 ((w3.alloc (.cells #[.int .u64 (ph : Int), .int .u64 (pl : Int)] 31)).alloc (.cells #[.int .u64 (qh : Int), .int .u64 (ql : Int)] 31)) (w3.heap.size + 1) qh ql)
  have E2 := Lib.hid ((D1.out.alloc (.cells #[.int .u64 (ph : Int), .int .u64 (pl : Int)] 31)).alloc (.cells #[.int .u64 (qh : Int), .int .u64 (ql : Int)] 31))
  replace B1 := ballD1 (ballD1 B1 (.cells #[.int .u64 (ph : Int), .int .u64 (pl : Int)] 31)) (.cells #[.int .u64 (qh : Int), .int .u64 (ql : Int)] 31)
  have g1 : w.heap.size + 1 < w3.heap.size := D1.out.2.2.2.2
  generalize (w3.alloc (.cells #[.int .u64 (ph : Int), .int .u64 (pl : Int)] 31)).alloc (.cells #[.int .u64 (qh : Int), .int .u64 (ql : Int)] 31) = V4 at *
  clear D1
  obtain ⟨a1, a2, -, -, a5⟩ := E0.out
  obtain ⟨b1, b2, -, -, b5⟩ := E1.out
  obtain ⟨c1, c2, c3, c4, c5⟩ := E2.out
  have hun : undef = Value.tuple #[] := rfl
  first
  | (go_region_with (fail))
  | fail "the region"
  all_goals
    go_wp2
    refine bodyPost_ret (v := .tuple #[U qh ql, .bool false]) (by simp [results, Tryd.results65, go_sem, *]) rfl ⟨_, _, _, ⟨HQ.out.2.1, ?_, fun k => (by cases k)⟩, rfl, ?_⟩
    · unfold wsB
      rw [decide_eq_false HZ.out, if_neg (by have := HB.out.1; omega), decide_eq_false (by have := HB.out.2; omega)]; rfl
    · clear a1 a2 b1 b2 c1 c2 c3 c4
      repeat' (first | (with_reducible exact B1) | (with_reducible refine Below.drew ?_) | (with_reducible refine Below.set1' ?_ _ _ ?_ _) | (with_reducible refine bstep ?_ (by with_reducible assumption)) | omega)

set_option maxRecDepth 100000 in
set_option maxHeartbeats 8000000 in
theorem wsz_up (neg : Bool) (h l : Nat) (x : Int) (ha : WW h l) (hz : nv h l ≠ 0) (neg0 : ¬ x < 0) (big : ¬ 38 < x) (w : World) (ht : Tab w) :
    Calls Tryd.prog 65 #[Dv neg h l x] w (RetUB1 (fun a b ok => WW a b ∧ ok = wsB (nv h l) x ∧ (ok = true → nv a b = wsN (nv h l) x)) w) := by
  have HT := Lib.hid ht
  have HA := Lib.hid ha
  have Z := Lib.hid (zeroD_any neg h l x)
  clear ht ha
  rw [decide_eq_false hz] at Z
  have HZ := Lib.hid hz
  clear hz
  have t1 : decide (x < 0) = false := decide_eq_false neg0
  obtain ⟨k, rfl⟩ : ∃ k : Nat, x = (k : Int) := ⟨x.toNat, by omega⟩
  have k38 : k ≤ 38 := by omega
  have HB := Lib.hid (And.intro neg0 k38)
  have TY := Lib.hid (ten_yes k k38)
  clear big neg0 k38
  go_enter Tryd.func65, Tryd.ntmps65
  go_wp2_with fail
  refine (Z.out _).mono ?_
  rintro e w1 ⟨rfl, hb1⟩
  have B1 : Below w.heap.size w w1 := bstep (by go_grown) hb1
  have D0 := Lib.hid ((show HoldsD _ w.heap.size neg h l (k : Int) from by simp [HoldsD, go_sem]).below hb1)
  have D1 := Lib.hid ((show Holds2 _ (w.heap.size + 1) 0 0 from by simp [Holds2, go_sem]).below hb1)
  clear hb1 Z
  obtain ⟨⟨a1, a2, a3, a4⟩, -, a9⟩ := D0.out
  go_wp2_with fail
  refine (TY.out _ (HT.out.below B1)).mono ?_
  rintro e w2 ⟨th, tl, P, rfl, hb2⟩
  have TP := Lib.hid P
  replace B1 := bstep B1 hb2
  replace D0 := Lib.hid (D0.out.below hb2)
  replace D1 := Lib.hid (D1.out.below hb2)
  clear hb2 a1 a2 a3 a4 a9 TY P
  obtain ⟨⟨a1, a2, a3, a4⟩, -, a9⟩ := D0.out
  have z1 : w.heap.size < w2.heap.size + 1 := by omega
  have MU := Lib.hid (mul_any h l th tl HA.out TP.out.1)
  go_wp2_with fail
  refine (MU.out _).mono ?_
  rintro e w3 ⟨ph, pl, qh, ql, P, rfl, hb3⟩
  have HQ := Lib.hid P
  replace B1 := bstep (ballD1 B1 (.cells #[.int .u64 (th : Int), .int .u64 (tl : Int)] 31)) hb3
  replace D1 := Lib.hid ((D1.out.alloc (.cells #[.int .u64 (th : Int), .int .u64 (tl : Int)] 31)).below hb3)
  clear hb3 a1 a2 a3 a4 a9 z1 D0 MU P
  go_upto_region 11 with fail
  have E0 := Lib.hid ((Holds2.new2 rfl).alloc _ : Holds2 ((w3.alloc (.cells #[.int .u64 (ph : Int), .int .u64 (pl : Int)] 31)).alloc (.cells #[.int .u64 (qh : Int), .int .u64 (ql : Int)] 31)) w3.heap.size ph pl)
  have E1 := Lib.hid (Holds2.new2 (by simp) : Holds2 ((w3.alloc (.cells #[.int .u64 (ph : Int), .int .u64 (pl : Int)] 31)).alloc (.cells #[.int .u64 (qh : Int), .int .u64 (ql : Int)] 31)) (w3.heap.size + 1) qh ql)
  have E2 := Lib.hid ((D1.out.alloc (.cells #[.int .u64 (ph : Int), .int .u64 (pl : Int)] 31)).alloc (.cells #[.int .u64 (qh : Int), .int .u64 (ql : Int)] 31))
  replace B1 := ballD1 (ballD1 B1 (.cells #[.int .u64 (ph : Int), .int .u64 (pl : Int)] 31)) (.cells #[.int .u64 (qh : Int), .int .u64 (ql : Int)] 31)
  have g1 : w.heap.size + 1 < w3.heap.size := D1.out.2.2.2.2
  generalize (w3.alloc (.cells #[.int .u64 (ph : Int), .int .u64 (pl : Int)] 31)).alloc (.cells #[.int .u64 (qh : Int), .int .u64 (ql : Int)] 31) = V4 at *
  clear D1
  obtain ⟨bz, hbz⟩ : ∃ b, b = decide (nv ph pl = 0) := ⟨_, rfl⟩
  have ZR := Lib.hid (zero_any ph pl)
  rw [← hbz] at ZR
  have HBZ := Lib.hid hbz
  clear hbz
  obtain ⟨a1, a2, -, -, a5⟩ := E0.out
  obtain ⟨b1, b2, -, -, b5⟩ := E1.out
  obtain ⟨c1, c2, c3, c4, c5⟩ := E2.out
  all_goals
    go_region_held3 (fun w' => w'.cell? ⟨w3.heap.size, 0, none⟩ = some (.int .u64 (ph : Int)) ∧ w'.cell? ⟨w3.heap.size, 1, none⟩ = some (.int .u64 (pl : Int)) ∧ w'.cell? ⟨w3.heap.size + 1, 0, none⟩ = some (.int .u64 (qh : Int)) ∧ w'.cell? ⟨w3.heap.size + 1, 1, none⟩ = some (.int .u64 (ql : Int)))
      (repeat' (first | (with_reducible assumption) | (with_reducible refine keep22d ?_) | (with_reducible refine keep22s ?_ ?_ ?_) | (with_reducible exact ⟨a1, a2, b1, b2⟩) | (with_reducible refine keep22 (by with_reducible assumption) ?_) | (show _ ≠ _; (try dsimp only); omega)))
      (first
        | (go_at_call 33; (with_reducible refine (ZR.out _).mono ?_); rintro e w5 ⟨rfl, hb5⟩; (first | obtain ⟨hc5, hf5⟩ := bcell (bundrew hb5) | obtain ⟨hc5, hf5⟩ := bcell hb5); have sz5 := hb5.size; (try simp only [World.size_drew] at sz5)))
    all_goals
      go_wp2
      refine bodyPost_ret (v := .tuple #[U qh ql, .bool bz]) (by simp [results, Tryd.results65, go_sem, *]) rfl ⟨_, _, _, ⟨HQ.out.2.1, ?_, fun y => ?_⟩, rfl, ?_⟩
      · have hN : nv2 ph pl qh ql = nv h l * 10 ^ k := HQ.out.2.2.trans (by rw [TP.out.2])
        obtain ⟨p1, p2⟩ := hi_half HQ.out.2.1 hN
        refine HBZ.out.trans ?_
        unfold wsB
        rw [decide_eq_false HZ.out, if_neg (by have := HB.out.1; omega), Int.toNat_natCast, decide_eq_true (show ((k : Nat) : Int) ≤ 38 by have := HB.out.2; omega), Bool.false_or, Bool.true_and]
        exact decide_iff_eq p1
      · have hN : nv2 ph pl qh ql = nv h l * 10 ^ k := HQ.out.2.2.trans (by rw [TP.out.2])
        obtain ⟨p1, p2⟩ := hi_half HQ.out.2.1 hN
        unfold wsN
        rw [if_neg (by have := HB.out.1; omega), Int.toNat_natCast]
        replace y := HBZ.out.symm.trans y
        exact p2 (of_decide_eq_true y)
      · clear a1 a2 b1 b2 c1 c2 c3 c4 hc5 hf5
        repeat' (first | (with_reducible exact B1) | (with_reducible refine Below.drew ?_) | (with_reducible refine Below.set1' ?_ _ _ ?_ _) | (with_reducible refine bstep ?_ (by with_reducible assumption)) | omega)

theorem wsz_any (neg : Bool) (h l : Nat) (x : Int) (ha : WW h l) (x1 : -6176 ≤ x) (x2 : x ≤ 6111) (w : World) (ht : Tab w) :
    Calls Tryd.prog 65 #[Dv neg h l x] w (RetUB1 (fun a b ok => WW a b ∧ ok = wsB (nv h l) x ∧ (ok = true → nv a b = wsN (nv h l) x)) w) := by
  by_cases hz : nv h l = 0
  · exact wsz_zero neg h l x ha hz w ht
  by_cases n0 : x < 0
  · by_cases big : 38 < -x
    · exact wsz_far neg h l x ha x1 x2 hz n0 big w ht
    · exact wsz_down neg h l x ha x1 x2 hz n0 big w ht
  · by_cases big : 38 < x
    · exact wsz_high neg h l x ha hz n0 big w ht
    · exact wsz_up neg h l x ha hz n0 big w ht
end Go.Proofs.YtkkddflclakphaaDoor
