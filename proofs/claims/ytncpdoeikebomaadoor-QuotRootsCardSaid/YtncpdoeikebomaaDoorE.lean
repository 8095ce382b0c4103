/-
  Shifts, squares held against a number, and the root, of package wide, each as a contract of its call.
-/
import Derived.Test.YtncpdoeikebomaaDoorDm
import Derived.Test.YtncpdoeikebomaaDoorM
import Derived.BigQuiet
namespace Go.Proofs.YtncpdoeikebomaaDoor
open Go.RowKit

theorem ret_u {h l : Nat} {h' l' : Int} (a : h' = h) (b : l' = l) : Ending.returned (.agg #[.int .u64 h', .int .u64 l']) = .returned (U h l) := by rw [a, b]

def RightF (h l s h' l' : Nat) : Prop := WW h' l' ∧ nv h' l' = nv h l / 2 ^ s
def LeftF (h l s h' l' : Nat) : Prop := WW h' l' ∧ nv h' l' + nv h l * 2 ^ s / (B128) * B128 = nv h l * 2 ^ s

theorem wrapMul (x k : Nat) : IntKind.u64.wrap ((x : Int) * 2 ^ k) = ((x * 2 ^ k % 18446744073709551616 : Nat) : Int) := by
  rw [IntKind.wrap_u64]; simp
theorem divPow (x k : Nat) : (x : Int) / 2 ^ k = ((x / 2 ^ k : Nat) : Int) := by simp

theorem right_words (h l s : Nat) (hs : s ≤ 63) (ha : WW h l) :
    bits BinOp.or IntKind.u64 ((l : Int) / 2 ^ s) (IntKind.u64.wrap ((h : Int) * 2 ^ (64 - s))) = ((h % 2 ^ s * 2 ^ (64 - s) + l / 2 ^ s : Nat) : Int) := by
  obtain ⟨h1, h2⟩ := ha
  have e := Sh.pow64 hs
  obtain ⟨_, r2, r3⟩ := Sh.right_lt e (Nat.two_pow_pos s) h l h1 h2
  rw [wrapMul, divPow, Sh.mul_mod_of' e, bits_or_u64_nat _ _ (Nat.lt_of_le_of_lt (Nat.le_add_left _ _) r3) (Nat.lt_of_le_of_lt (Nat.le_add_right _ _) r3), Sh.or_sum' r2]
theorem rightF_mk (h l s : Nat) (hs : s ≤ 63) (ha : WW h l) : RightF h l s (h / 2 ^ s) (h % 2 ^ s * 2 ^ (64 - s) + l / 2 ^ s) := by
  obtain ⟨h1, h2⟩ := ha
  have e := Sh.pow64 hs
  obtain ⟨r1, r2, r3⟩ := Sh.right_lt e (Nat.two_pow_pos s) h l h1 h2
  exact ⟨⟨r1, r3⟩, Sh.right_val e (Nat.two_pow_pos s) h l⟩

set_option maxHeartbeats 400000 in
theorem right_any (h l s : Nat) (hs : s ≤ 63) (ha : WW h l) (w : World) :
    Calls Tryd.prog 72 #[U h l, .int .i64 (s : Int)] w (RetU (RightF h l s) w) := by
  have F := rightF_mk h l s hs ha
  have E := Lib.hid (right_words h l s hs ha)
  go_enter Tryd.func72, Tryd.ntmps72
  go_wp2
  go_region
  go_wp2
  go_returns
  exact ⟨_, _, F, ret_u (divPow h s) E.out, by go_grown⟩

theorem left_words (h l s : Nat) (hs : s ≤ 63) (ha : WW h l) :
    bits BinOp.or IntKind.u64 (IntKind.u64.wrap ((h : Int) * 2 ^ s)) ((l : Int) / 2 ^ (64 - s)) = ((h % 2 ^ (64 - s) * 2 ^ s + l / 2 ^ (64 - s) : Nat) : Int) := by
  obtain ⟨h1, h2⟩ := ha
  have e := Sh.pow64 hs
  obtain ⟨r2, r3⟩ := Sh.left_lt e (Nat.two_pow_pos s) (Nat.two_pow_pos (64 - s)) h l h2
  have r4 : l / 2 ^ (64 - s) < 2 ^ s := Nat.div_lt_of_lt_mul (by rw [e]; exact h2)
  rw [wrapMul, divPow, Sh.mul_mod_of e, bits_or_u64_nat _ _ (Nat.lt_of_le_of_lt (Nat.le_add_right _ _) r2) (Nat.lt_of_le_of_lt (Nat.le_add_left _ _) r2), Sh.or_sum'' r4]
theorem leftF_mk (h l s : Nat) (hs : s ≤ 63) (ha : WW h l) : LeftF h l s (h % 2 ^ (64 - s) * 2 ^ s + l / 2 ^ (64 - s)) (l % 2 ^ (64 - s) * 2 ^ s) := by
  obtain ⟨h1, h2⟩ := ha
  have e := Sh.pow64 hs
  obtain ⟨r2, r3⟩ := Sh.left_lt e (Nat.two_pow_pos s) (Nat.two_pow_pos (64 - s)) h l h2
  have v := Sh.left_val e h l
  have hw : WW (h % 2 ^ (64 - s) * 2 ^ s + l / 2 ^ (64 - s)) (l % 2 ^ (64 - s) * 2 ^ s) := ⟨r2, r3⟩
  refine ⟨hw, ?_⟩
  have lt := nv_lt hw
  have v' : nv (h % 2 ^ (64 - s) * 2 ^ s + l / 2 ^ (64 - s)) (l % 2 ^ (64 - s) * 2 ^ s) + h / 2 ^ (64 - s) * B128 = nv h l * 2 ^ s := v
  rw [← v']
  generalize nv (h % 2 ^ (64 - s) * 2 ^ s + l / 2 ^ (64 - s)) (l % 2 ^ (64 - s) * 2 ^ s) = x at *
  rw [Nat.add_mul_div_right _ _ (by decide), Nat.div_eq_of_lt lt, Nat.zero_add]
theorem left_low (l s : Nat) (hs : s ≤ 63) : IntKind.u64.wrap ((l : Int) * 2 ^ s) = ((l % 2 ^ (64 - s) * 2 ^ s : Nat) : Int) := by
  rw [wrapMul, Sh.mul_mod_of (Sh.pow64 hs)]

set_option maxHeartbeats 400000 in
theorem left_any (h l s : Nat) (hs : s ≤ 63) (ha : WW h l) (w : World) :
    Calls Tryd.prog 70 #[U h l, .int .i64 (s : Int)] w (RetU (LeftF h l s) w) := by
  have F := leftF_mk h l s hs ha
  have E := Lib.hid (left_words h l s hs ha)
  go_enter Tryd.func70, Tryd.ntmps70
  go_wp2
  go_region
  go_wp2
  go_returns
  exact ⟨_, _, F, ret_u E.out (left_low l s hs), by go_grown⟩

set_option maxHeartbeats 800000 in
theorem cmpSquare_any (ah al bh bl ch cl : Nat) (ha : WW ah al) (hb : WW bh bl) (hc0 : WW ch cl) (w : World) :
    Calls Tryd.prog 75 #[U ah al, U bh bl, U ch cl] w (RetI (cmpN (nv ah al * nv ah al) (nv2 bh bl ch cl)) w) := by
  go_enter Tryd.func75, Tryd.ntmps75
  go_wp2_with fail
  refine (mul_any ah al ah al ha ha _).mono ?_
  rintro e w1 ⟨h, l, h', l', F, rfl, hb1⟩
  have Hb1 : Below w.heap.size w w1 := bstep (by go_grown) hb1
  obtain ⟨z0, z1, z2⟩ : w.heap.size < w1.heap.size ∧ w.heap.size + 1 < w1.heap.size ∧ w.heap.size + 1 + 1 < w1.heap.size := by have := hb1.size; simp at this; omega
  obtain ⟨y0, y1, y2⟩ : w.heap.size < w1.heap.size + 1 ∧ w.heap.size + 1 < w1.heap.size + 1 ∧ w.heap.size + 1 + 1 < w1.heap.size + 1 := by omega
  obtain ⟨hc, hf⟩ := bcell hb1
  clear hb1
  obtain ⟨f1, f2, f3⟩ := F
  have F3 := Lib.hid f3
  clear f3
  go_wp2_with fail
  refine (cmp2_any h l h' l' bh bl ch cl f1 f2 hb hc0 _).mono ?_
  rintro e w2 ⟨rfl, hb2⟩
  go_wp2
  go_ret
  exact ⟨by rw [← F3.out]; rfl, bstep (by clear hc hf; go_grown) hb2⟩
end Go.Proofs.YtncpdoeikebomaaDoor
