/-
  math/bits.Div64 for every high word below the divisor, and DivWord of package wide, each as a contract of its call.
-/
import Derived.Test.YtncpdoeikebomaaDoorG
import Derived.Test.YtncpdoeikebomaaDoorD
namespace Go.Proofs.YtncpdoeikebomaaDoor
open Go.RowKit

def DivF (hi lo y q r : Nat) : Prop := q < 18446744073709551616 ∧ r < y ∧ q * y + r = hi * 18446744073709551616 + lo
def RetWW (F : Nat → Nat → Prop) (w : World) (e : Ending) (w' : World) : Prop := ∃ q r : Nat, F q r ∧ e = .returned (.tuple #[.int .u64 (q : Int), .int .u64 (r : Int)]) ∧ ∃ n, w' = w.drewN n

set_option maxRecDepth 100000 in
set_option maxHeartbeats 400000 in
theorem div64_zero (lo y : Nat) (h2 : lo < 18446744073709551616) (h3 : y < 18446744073709551616) (h4 : 0 < y) (w : World) :
    Calls Tryd.prog 96 #[.int .u64 0, .int .u64 (lo : Int), .int .u64 (y : Int)] w (RetWW (DivF 0 lo y) w) := by
  have t1 : ((y : Int) == 0) = false := by simp; omega
  have t3 : ¬ ((y : Int) ≤ 0) := by omega
  have t4 : (y : Int) ≠ 0 := by omega
  have d1 : lo / y ≤ lo := Nat.div_le_self _ _
  have d2 : lo % y < y := Nat.mod_lt _ h4
  have d3 := Nat.div_add_mod' lo y
  have F : DivF 0 lo y (lo / y) (lo % y) := ⟨by omega, d2, by rw [Nat.zero_mul, Nat.zero_add]; exact d3⟩
  clear d1 d2 d3
  go_enter Tryd.func96, Tryd.ntmps96
  go_wp2
  go_region
  go_wp2
  go_ret2
  exact ⟨_, _, F, congrArg Ending.returned (ret_two (by rw [show (lo : Int) / y = ((lo / y : Nat) : Int) by simp]; exact Mul64.wrapN _ F.1) (by simp)), 1, rfl⟩

theorem div64_all (hi lo y : Nat) (h1 : hi < y) (h2 : lo < 18446744073709551616) (h3 : y < 18446744073709551616) (w : World) :
    Calls Tryd.prog 96 #[.int .u64 (hi : Int), .int .u64 (lo : Int), .int .u64 (y : Int)] w (RetWW (DivF hi lo y) w) := by
  rcases Nat.eq_zero_or_pos hi with h | h
  · subst h
    exact div64_zero lo y h2 h3 h1 w
  · refine (div64_any hi lo y h1 h2 h3 h w).mono ?_
    rintro e w' ⟨q, r, F, he, rfl⟩
    exact ⟨q, r, F, he, 0, rfl⟩

theorem bdrewN {B : Nat} {a w : World} (h : Below B a w) (n : Nat) : Below B a (w.drewN n) := ⟨h.os, h.tape, h.output, h.size, h.block⟩
def RetUUWB (F : Nat → Nat → Nat → Nat → Nat → Prop) (b : Bool) (w : World) (e : Ending) (w' : World) : Prop :=
  ∃ h l h' l' r : Nat, F h l h' l' r ∧ e = .returned (.tuple #[U h l, U h' l', .int .u64 (r : Int), .bool b]) ∧ Below w.heap.size w w'
/-- What a quotient by a word is. -/
def DivWordF (hh hl lh ll x h l h' l' r : Nat) : Prop := WW h l ∧ WW h' l' ∧ r < x ∧ nv2 h l h' l' * x + r = nv2 hh hl lh ll

theorem four_words (K x a b c d q1 q2 q3 q4 r1 r2 r3 r4 : Nat) (e1 : q1 * x + r1 = 0 * K + a) (e2 : q2 * x + r2 = r1 * K + b) (e3 : q3 * x + r3 = r2 * K + c) (e4 : q4 * x + r4 = r3 * K + d) :
    ((q1 * K + q2) * (K * K) + (q3 * K + q4)) * x + r4 = (a * K + b) * (K * K) + (c * K + d) := by
  rw [Nat.zero_mul, Nat.zero_add] at e1
  have f1 : (q1 * K + q2) * x + r2 = a * K + b := by
    rw [Nat.add_mul, Nat.add_assoc, e2, ← Nat.add_assoc, Nat.mul_right_comm, ← Nat.add_mul, e1]
  have f2 : (q3 * K + q4) * x + r4 = r2 * (K * K) + (c * K + d) := by
    rw [Nat.add_mul, Nat.add_assoc, e4, ← Nat.add_assoc, Nat.mul_right_comm, ← Nat.add_mul, e3, Nat.add_mul, Nat.mul_assoc, Nat.add_assoc]
  rw [Nat.add_mul, Nat.add_assoc, f2, ← Nat.add_assoc, Nat.mul_right_comm, ← Nat.add_mul, f1]

theorem divWordF_mk {hh hl lh ll x q1 q2 q3 q4 r1 r2 r3 r4 : Nat} (f1 : DivF 0 hh x q1 r1) (f2 : DivF r1 hl x q2 r2) (f3 : DivF r2 lh x q3 r3) (f4 : DivF r3 ll x q4 r4) : DivWordF hh hl lh ll x q1 q2 q3 q4 r4 :=
  ⟨⟨f1.1, f2.1⟩, ⟨f3.1, f4.1⟩, f4.2.1, four_words 18446744073709551616 x hh hl lh ll q1 q2 q3 q4 r1 r2 r3 r4 f1.2.2 f2.2.2 f3.2.2 f4.2.2⟩

set_option maxHeartbeats 1000000 in
theorem divWord_any (hh hl lh ll x : Nat) (h1 : WW hh hl) (h2 : WW lh ll) (hx : 0 < x) (hx' : x < 18446744073709551616) (w : World) :
    Calls Tryd.prog 68 #[U hh hl, U lh ll, .int .u64 (x : Int)] w (RetUUWB (DivWordF hh hl lh ll x) true w) := by
  have t1 : ((x : Int) == 0) = false := by simp; omega
  obtain ⟨a1, a2⟩ := h1
  obtain ⟨b1, b2⟩ := h2
  go_enter Tryd.func68, Tryd.ntmps68
  go_wp2_with fail
  refine (div64_zero hh x a1 hx' hx _).mono ?_
  rintro e w1 ⟨q1, r1, F1, rfl, n1, rfl⟩
  go_wp2_with fail
  refine (div64_all r1 hl x F1.2.1 a2 hx' _).mono ?_
  rintro e w1 ⟨q2, r2, F2, rfl, n2, rfl⟩
  go_wp2_with fail
  refine (div64_all r2 lh x F2.2.1 b1 hx' _).mono ?_
  rintro e w1 ⟨q3, r3, F3, rfl, n3, rfl⟩
  go_wp2_with fail
  refine (div64_all r3 ll x F3.2.1 b2 hx' _).mono ?_
  rintro e w1 ⟨q4, r4, F4, rfl, n4, rfl⟩
  go_wp2
  go_region
  all_goals
    go_wp2
    refine bodyPost_ret (v := .tuple #[U q1 q2, U q3 q4, .int .u64 (r4 : Int), .bool true]) (by simp [results, Tryd.results68, go_sem, *]) rfl ⟨_, _, _, _, _, divWordF_mk F1 F2 F3 F4, rfl, ?_⟩
    go_grown
    repeat (refine bdrewN ?_ _; go_grown)
end Go.Proofs.YtncpdoeikebomaaDoor
