/-
  The quotients of package wide that are none, and the quotient in one contract.
-/
import Derived.Test.YtncpdoeikebomaaDoorDd
namespace Go.Proofs.YtncpdoeikebomaaDoor
open Go.RowKit

set_option maxHeartbeats 1000000 in
theorem div_no (hh hl lh ll dh dl : Nat) (h1 : WW hh hl) (hd : WW dh dl) (k : nv dh dl ≤ nv hh hl) (w : World) :
    Calls Tryd.prog 32 #[U hh hl, U lh ll, U dh dl] w fun e w' => e = .returned (.tuple #[U 0 0, U 0 0, .bool false]) ∧ Below w.heap.size w w' := by
  have C := cmp_any hh hl dh dl h1 hd
  have t0 : decide (0 ≤ cmpN (nv hh hl) (nv dh dl)) = true := by
    rcases cmpN_range (nv hh hl) (nv dh dl) with ⟨e, _⟩ | ⟨e, _⟩ | ⟨e, _⟩
    · omega
    · rw [e]; decide
    · rw [e]; decide
  have HC := Lib.hid C
  generalize cmpN (nv hh hl) (nv dh dl) = cv at *
  clear C k h1 hd
  go_enter Tryd.func32, Tryd.ntmps32
  go_wp2_with fail
  refine (HC.out _).mono ?_
  rintro e w1 ⟨rfl, hb1⟩
  have B1 : Below w.heap.size w w1 := bstep (by go_grown) hb1
  have A3 := Lib.hid (Holds2.below (by simp [Holds2, go_sem]) hb1 : Holds2 w1 (w.heap.size + 1 + 1 + 1) 0 0)
  have A4 := Lib.hid (Holds2.below (by simp [Holds2, go_sem]) hb1 : Holds2 w1 (w.heap.size + 1 + 1 + 1 + 1) 0 0)
  clear hb1 HC
  obtain ⟨a1, a2, a3, a4, a5⟩ := A3.out
  obtain ⟨b1, b2, b3, b4, b5⟩ := A4.out
  go_wp2
  refine bodyPost_ret (v := .tuple #[U 0 0, U 0 0, .bool false]) (by simp [results, Tryd.results32, go_sem, *]) rfl ⟨rfl, ?_⟩
  clear a1 a2 a3 a4 a5 b1 b2 b3 b4 b5
  go_grown

theorem div_yes (hh hl lh ll dh dl : Nat) (h1 : WW hh hl) (h2 : WW lh ll) (hd : WW dh dl) (k : nv hh hl < nv dh dl) (w : World) :
    Calls Tryd.prog 32 #[U hh hl, U lh ll, U dh dl] w (RetUUB (QuoF hh hl lh ll dh dl) true w) := by
  rcases Nat.eq_zero_or_pos dh with z | z
  · subst z
    exact div_low hh hl lh ll dl h1 h2 hd.2 (by simpa [nv] using k) w
  · exact div_high hh hl lh ll dh dl h1 h2 hd k z w

set_option maxHeartbeats 1000000 in
theorem divWord_no (hh hl lh ll : Nat) (w : World) :
    Calls Tryd.prog 68 #[U hh hl, U lh ll, .int .u64 0] w fun e w' => e = .returned (.tuple #[U 0 0, U 0 0, .int .u64 0, .bool false]) ∧ Below w.heap.size w w' := by
  go_enter Tryd.func68, Tryd.ntmps68
  go_wp2
  refine bodyPost_ret (v := .tuple #[U 0 0, U 0 0, .int .u64 0, .bool false]) (by simp [results, Tryd.results68, go_sem, *]) rfl ⟨rfl, ?_⟩
  go_grown

end Go.Proofs.YtncpdoeikebomaaDoor
