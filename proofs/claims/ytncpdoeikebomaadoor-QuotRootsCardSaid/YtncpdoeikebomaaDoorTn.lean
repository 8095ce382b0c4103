/-
  The powers of ten of package wide, as a contract of the call.
-/
import Derived.Test.YtncpdoeikebomaaDoorDe
import Derived.Test.YtncpdoeikebomaaDoorJ
namespace Go.Proofs.YtncpdoeikebomaaDoor
open Go.RowKit

/-! ### Powers of ten -/
/-- What Ten hands back. -/
def TenF (k h l : Nat) : Prop := WW h l ∧ nv h l = 10 ^ k

theorem ten_word {k : Nat} (h : k ≤ 19) : 10 ^ k < 18446744073709551616 := Nat.lt_of_le_of_lt (Nat.pow_le_pow_right (by decide) h) (by decide)

set_option maxHeartbeats 1000000 in
theorem ten_low (k : Nat) (hk : k ≤ 19) (w : World) (ht : Tab w) : Calls Tryd.prog 31 #[.int .i64 (k : Int)] w fun e w' => ∃ h l : Nat, TenF k h l ∧ e = .returned (.tuple #[U h l, .bool true]) ∧ Below w.heap.size w w' := by
  obtain ⟨h0, h1⟩ := ht
  have c := h1 k (by omega)
  have F : TenF k 0 (10 ^ k) := ⟨⟨by decide, ten_word hk⟩, by simp [nv]⟩
  have HF := Lib.hid F
  clear h1 F
  generalize 10 ^ k = p at *
  have t1 : decide ((k : Int) < 0) = false := by simp
  have t2 : decide (38 < (k : Int)) = false := by simp; omega
  have t3 : decide ((k : Int) ≤ 19) = true := by simp; omega
  have t4 : k < 20 := by omega
  clear hk
  go_enter Tryd.func31, Tryd.ntmps31
  go_wp2_with fail
  refine (of_any p _).mono ?_
  rintro e w' ⟨rfl, o1, rfl⟩
  go_wp2
  refine bodyPost_ret (v := .tuple #[U 0 p, .bool true]) (by simp [results, Tryd.results31, go_sem, *]) rfl ⟨0, p, HF.out, rfl, ?_⟩
  go_grown

set_option maxHeartbeats 1000000 in
theorem ten_no (k : Int) (hk : k < 0 ∨ 38 < k) (w : World) : Calls Tryd.prog 31 #[.int .i64 k] w fun e w' => e = .returned (.tuple #[U 0 0, .bool false]) ∧ Below w.heap.size w w' := by
  rcases Int.lt_or_le k 0 with h | h
  · have t1 : decide (k < 0) = true := by simpa using h
    clear hk h
    go_enter Tryd.func31, Tryd.ntmps31
    go_wp2
    refine bodyPost_ret (v := .tuple #[U 0 0, .bool false]) (by simp [results, Tryd.results31, go_sem, *]) rfl ⟨rfl, ?_⟩
    go_grown
  · have t1 : decide (k < 0) = false := by simp; omega
    have t2 : decide (38 < k) = true := by simp; omega
    clear hk h
    go_enter Tryd.func31, Tryd.ntmps31
    go_wp2
    refine bodyPost_ret (v := .tuple #[U 0 0, .bool false]) (by simp [results, Tryd.results31, go_sem, *]) rfl ⟨rfl, ?_⟩
    go_grown

theorem ten_high_val {j o h l : Nat} (hj : j ≤ 19) (m : MulWordF 0 10000000000000000000 (10 ^ j) o h l) : TenF (j + 19) h l := by
  obtain ⟨m1, m2, m3⟩ := m
  refine ⟨m2, ?_⟩
  have e : nv 0 10000000000000000000 * 10 ^ j = 10 ^ (j + 19) := by rw [Nat.pow_add, Nat.mul_comm]; rfl
  rw [e] at m3
  have b : 10 ^ (j + 19) < B128 := Nat.lt_of_le_of_lt (Nat.pow_le_pow_right (by decide) (show j + 19 ≤ 38 by omega)) (by decide)
  exact no_carry _ _ _ _ m3 b

set_option maxHeartbeats 2000000 in
theorem ten_high (k : Nat) (hk : 19 < k) (hk' : k ≤ 38) (w : World) (ht : Tab w) : Calls Tryd.prog 31 #[.int .i64 (k : Int)] w fun e w' => ∃ h l : Nat, TenF k h l ∧ e = .returned (.tuple #[U h l, .bool true]) ∧ Below w.heap.size w w' := by
  obtain ⟨j, rfl⟩ : ∃ j, k = j + 19 := ⟨k - 19, by omega⟩
  obtain ⟨h0, h1⟩ := ht
  have c19 : w.cell? ⟨0, 19, none⟩ = some (.int .u64 10000000000000000000) := h1 19 (by decide)
  have c := h1 j (by omega)
  have HM := Lib.hid (fun W => mulWord_any 0 10000000000000000000 (10 ^ j) ⟨by decide, by decide⟩ (ten_word (by omega)) W)
  have HV := Lib.hid (fun o h l => @ten_high_val j o h l (by omega))
  clear h1
  generalize 10 ^ j = p at *
  obtain ⟨ki, hki⟩ := named (j + 19)
  have t1 : decide (ki < 0) = false := by simp; omega
  have t2 : decide (38 < ki) = false := by simp; omega
  have t3 : decide (ki ≤ 19) = false := by simp; omega
  have t4 : IntKind.i64.wrap (ki - 19) = (j : Int) := by rw [IntKind.wrap_i64]; omega
  have t5 : j < 20 := by omega
  have t6 : (0 : Int) ≤ (j : Int) := by omega
  have t7 : (j : Int) < 20 := by omega
  have e19 : IntKind.i64.wrap 19 = 19 := by decide
  have z1 : 0 < w.heap.size + 1 := by omega
  have y0 : w.heap.size < w.heap.size + 1 + 1 := by omega
  have y1 : w.heap.size < w.heap.size + 1 + 1 + 1 := by omega
  have y2 : w.heap.size + 1 < w.heap.size + 1 + 1 + 1 := by omega
  have z2 : 0 < w.heap.size + 1 + 1 := by omega
  have z3 : 0 < w.heap.size + 1 + 1 + 1 := by omega
  rw [← hki]
  clear hki hk hk'
  go_enter Tryd.func31, Tryd.ntmps31
  go_wp2
  go_region_held3 (fun w' => w'.cell? ⟨0, 19, none⟩ = some (.int .u64 10000000000000000000) ∧ w'.cell? ⟨0, j, none⟩ = some (.int .u64 (p : Int))) (simp [go_sem, *])
    (first
      | (go_at_call 59; refine (of_any 10000000000000000000 _).mono ?_; rintro e w' ⟨rfl, o1, rfl⟩)
      | (go_at_call 66; refine (HM.out _).mono ?_; rintro e w3 ⟨o, h, l, M, rfl, hb3⟩; obtain ⟨hc3, hf3⟩ := bcell (bundrew hb3); have Hb3 : Below w.heap.size w w3 := bstep (by go_grown) hb3; have sz := hb3.size; simp only [World.size_alloc, World.size_drew] at sz; first | obtain ⟨u1, u2, u3, u4, u5, u6, u7, u8⟩ := nn3 sz | obtain ⟨u1, u2, u3, u4, u5, u6, u7, u8⟩ := nn2 sz))
  all_goals
    have V := Lib.hid (HV.out o h l M)
    clear M HM HV
    go_wp2
    refine bodyPost_ret (v := .tuple #[U h l, .bool true]) (by simp [results, Tryd.results31, go_sem, *]) rfl ⟨h, l, V.out, rfl, ?_⟩
    clear hc3 hf3
    go_grown

theorem ten_yes (k : Nat) (hk : k ≤ 38) (w : World) (ht : Tab w) : Calls Tryd.prog 31 #[.int .i64 (k : Int)] w fun e w' => ∃ h l : Nat, TenF k h l ∧ e = .returned (.tuple #[U h l, .bool true]) ∧ Below w.heap.size w w' := by
  rcases Nat.lt_or_ge 19 k with h | h
  · exact ten_high k h hk w ht
  · exact ten_low k h w ht
end Go.Proofs.YtncpdoeikebomaaDoor
