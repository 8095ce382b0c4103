/-
  The document's powers of two, what goes over, and whether two numbers are the same, each as a contract of its call.
-/
import Derived.Test.YtcimickajocdnaaDoorR8
import Derived.Test.YtcimickajocdnaaDoorR3
namespace Go.Proofs.YtcimickajocdnaaDoor
open Go.RowKit

def PowRel (w : World) (n m : Nat) (o k : Value) (W : World) : Prop := ∃ j : Nat, k = .int .i64 (j : Int) ∧ j + m = n ∧ Row W o (Dg.dg (2 ^ j)) ∧ Below w.heap.size w W

theorem one_row (W : World) : Row (W.alloc (.cells #[.int .i64 1] 3)) (.slice (some ⟨W.heap.size, 0, none⟩) 1 1) [1] := by
  refine ⟨rfl, .inr ⟨W.heap.size, 1, #[.int .i64 1], rfl, Nat.zero_le _, ?_, Nat.le_refl _, by decide, rfl, rfl⟩⟩
  exact heap_alloc_new W _

theorem pow2_lt {j : Nat} (h : j ≤ 256) : 2 ^ j < 10 ^ 200 := Nat.lt_of_le_of_lt (Nat.pow_le_pow_right (by decide) h) (by decide +kernel)

set_option maxRecDepth 100000 in
set_option maxHeartbeats 2000000 in
theorem power_any (n : Nat) (hn : n ≤ 256) (w : World) : Calls Tryd.prog 34 #[.int .i64 (n : Int)] w (RetRow (Dg.dg (2 ^ n)) w) := by
  have OR := Lib.hid (one_row w)
  go_enter Tryd.func34, Tryd.ntmps34
  go_wp2
  go_loopg [3, 4] n (fun m o k W => PowRel w n m o k W)
  case atStart => exact ⟨0, rfl, by omega, by rw [show Dg.dg (2 ^ 0) = [1] from by rw [Dg.dg_pos (by decide)]; simp [Dg.dg_zero]]; exact OR.out, by go_grown⟩
  case round =>
    obtain ⟨j, rfl, e1, R, HB⟩ := hrel
    have HR := Lib.hid R
    have E1 := Lib.hid e1
    have jn : j ≤ n := by omega
    clear R e1 OR
    rcases Nat.lt_or_ge j n with z | z
    · have t : decide (j < n) = true := by simpa using z
      have L := Lib.hid (dg_small (pow2_lt (show j ≤ 256 by omega)))
      go_wp2_with fail
      refine (small_any u3 (Dg.dg (2 ^ j)) 2 0 2 0 rfl rfl (by omega) (by omega) (by have := L.out; omega) (Dg.dg_lt _) _ HR.out).mono ?_
      rintro e w1 ⟨v1, rfl, R1, hb1⟩
      rw [Dg.val_dg, Nat.add_zero, ← Nat.pow_succ] at R1
      have HR1 := Lib.hid R1
      have B1 : Below w.heap.size w w1 := bstep HB hb1
      clear R1 hb1
      go_wp2
      go_roundg (gk - 1)
      case measure => have := E1.out; omega
      case rel => exact ⟨j + 1, by go_num, by have := E1.out; omega, HR1.out, B1⟩
    · have ej : j = n := by omega
      have t : decide (j < n) = false := by simp; omega
      have EJ := Lib.hid ej
      clear ej
      go_wp2
      go_ret
      exact ⟨_, rfl, by have := HR.out; rw [EJ.out] at this; exact this, HB⟩

set_option maxHeartbeats 1000000 in
theorem same_any (v1 v2 : Value) (m n : Nat) (la : (Dg.dg m).length ≤ 20000) (lb : (Dg.dg n).length ≤ 20000) (w : World) (h1 : Row w v1 (Dg.dg m)) (h2 : Row w v2 (Dg.dg n)) (e : m = n) :
    Calls Tryd.prog 20 #[v1, v2] w (RetB true w) := by
  subst e
  have C := rcmp_any v1 v2 m m la lb w h1 h2
  rw [cmpN_eq] at C
  have HC := Lib.hid C
  clear C h1 h2 la lb
  go_enter Tryd.func20, Tryd.ntmps20
  go_wp2_with fail
  refine (HC.out).mono ?_
  rintro e w1 ⟨rfl, hb1⟩
  go_wp2
  go_ret
  exact ⟨rfl, hb1⟩

set_option maxRecDepth 100000 in
set_option maxHeartbeats 1000000 in
theorem over_any (c n : Nat) (hc : c < 18446744073709551616) (hn : n ≤ 256) (w : World) : Calls Tryd.prog 22 #[.int .u64 (c : Int), .int .i64 (n : Int)] w (RetRow (Dg.dg (c * 2 ^ n)) w) := by
  have C := words_any w.heap.size [c] 1 (Nat.le_of_ble_eq_true rfl) (by intro x hx; simp at hx; subst hx; exact hc) (w.alloc (.cells #[.int .u64 (c : Int)] 22)) (by simp) (by
    intro k hk
    have : k = 0 := by simp at hk; omega
    subst this
    simp [go_sem])
  rw [wv1] at C
  have HC := Lib.hid C
  have L1 := Lib.hid (Dg.dg_length_le (show c < 10 ^ 20 by omega))
  have L2 := Lib.hid (dg_small (pow2_lt hn))
  clear C hc
  go_enter Tryd.func22, Tryd.ntmps22
  go_wp2_with fail
  refine (HC.out).mono ?_
  rintro e w1 ⟨v1, rfl, R1, hb1⟩
  have HR1 := Lib.hid R1
  have B1 : Below w.heap.size w w1 := bstep (by go_grown) hb1
  clear R1 hb1 HC
  go_wp2_with fail
  refine (power_any n hn _).mono ?_
  rintro e w2 ⟨v2, rfl, R2, hb2⟩
  have HR2 := Lib.hid R2
  have HR1' := Lib.hid (HR1.out.below hb2)
  have B2 : Below w.heap.size w w2 := bstep B1 hb2
  clear R2 hb2 HR1
  go_wp2_with fail
  refine (rmul_any v1 v2 c (2 ^ n) (by have := L1.out; omega) L2.out _ HR1'.out HR2.out).mono ?_
  rintro e w3 ⟨v3, rfl, R3, hb3⟩
  have HR3 := Lib.hid R3
  clear R3
  go_wp2
  go_ret
  exact ⟨v3, rfl, HR3.out, bstep B2 hb3⟩
end Go.Proofs.YtcimickajocdnaaDoor
