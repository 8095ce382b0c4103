/-
  A word of a quotient, guessed and mended (guess, divStep of package wide), each as a contract of its call.
-/
import Derived.Test.YtncpdoeikebomaaDoorDa
import Derived.Test.YtncpdoeikebomaaDoorH
import Derived.Test.YtncpdoeikebomaaDoorF
namespace Go.Proofs.YtncpdoeikebomaaDoor
open Go.RowKit

/-- What is guessed. -/
def GuessF (ah al dh q : Nat) : Prop := q < 18446744073709551616 ∧ (dh ≤ ah ∧ q = 18446744073709551615 ∨ ah < dh ∧ q = nv ah al / dh)

set_option maxHeartbeats 400000 in
theorem guess_any (ah al dh : Nat) (ha : WW ah al) (hd : dh < 18446744073709551616) (w : World) :
    Calls Tryd.prog 98 #[U ah al, .int .u64 (dh : Int)] w fun e w' => ∃ q : Nat, GuessF ah al dh q ∧ e = .returned (.int .u64 (q : Int)) ∧ Below w.heap.size w w' := by
  obtain ⟨a1, a2⟩ := ha
  rcases Nat.lt_or_ge ah dh with h | h
  · have t : decide (dh ≤ ah) = false := by simp; omega
    go_enter Tryd.func98, Tryd.ntmps98
    go_wp2_with fail
    refine (div64_all ah al dh h a2 hd _).mono ?_
    rintro e w1 ⟨q, r, F, rfl, n, rfl⟩
    go_wp2
    go_ret
    refine ⟨q, ⟨F.1, .inr ⟨h, ?_⟩⟩, rfl, by go_grown; exact bdrewN (by go_grown) n⟩
    obtain ⟨_, f2, f3⟩ := F
    unfold nv
    rw [← f3, Nat.add_comm, Nat.add_mul_div_right _ _ (by omega), Nat.div_eq_of_lt f2, Nat.zero_add]
  · have t : decide (dh ≤ ah) = true := by simp; omega
    go_enter Tryd.func98, Tryd.ntmps98
    go_wp2
    go_ret
    exact ⟨18446744073709551615, ⟨by decide, .inl ⟨h, rfl⟩⟩, rfl, by go_grown⟩

/-- What a word of a quotient is. -/
def StepQ (ah al v dh dl q rh rl : Nat) : Prop := q < 18446744073709551616 ∧ WW rh rl ∧ nv rh rl < nv dh dl ∧ q * nv dh dl + nv rh rl = nv ah al * 18446744073709551616 + v

/-- Where the mending of the guess stands: o and the number p are the product of d and q. -/
def MendF (ah al v dh dl q o ph pl : Nat) : Prop := q < 18446744073709551616 ∧ o < 18446744073709551616 ∧ WW ph pl ∧ nv ph pl + o * B128 = q * nv dh dl ∧ (nv ah al * 18446744073709551616 + v) / nv dh dl ≤ q ∧ 0 < nv dh dl ∧ nv dh dl < B128

theorem split_dividend (ah al v : Nat) : nv ah al * 18446744073709551616 + v = ah * B128 + nv al v := by unfold nv B128; omega

theorem mend_start {ah al v dh dl q o ph pl : Nat} (hv : v < 18446744073709551616) (hd : WW dh dl) (h : nv ah al < nv dh dl) (h0 : 0 < dh) (g : GuessF ah al dh q) (f : MulWordF dh dl q o ph pl) : MendF ah al v dh dl q o ph pl := by
  obtain ⟨f1, f2, f3⟩ := f
  obtain ⟨g1, g2⟩ := g
  refine ⟨g1, f1, f2, by rw [f3, Nat.mul_comm], ?_, by omega, nv_lt hd⟩
  rcases g2 with ⟨_, rfl⟩ | ⟨_, rfl⟩
  · have := Dv.quo_lt (K := 18446744073709551616) h hv
    omega
  · exact Dv.guess_ge (dl := dl) rfl hv h0
/-- The product is too great. -/
theorem mend_more {ah al v dh dl q o ph pl h l c : Nat} (m : MendF ah al v dh dl q o ph pl) (k : nv ah al * 18446744073709551616 + v < q * nv dh dl) (s : SubF ph pl dh dl 0 h l c) :
    0 < q ∧ c ≤ o ∧ MendF ah al v dh dl (q - 1) (o - c) h l := by
  obtain ⟨m1, m2, m3, m4, m5, m6, m7⟩ := m
  obtain ⟨s1, s2, s3⟩ := s
  obtain ⟨l1, l2, l3⟩ := Dv.less m6 m5 k
  have hco : c ≤ o := by
    rcases Nat.eq_zero_or_pos o with z | z
    · subst z
      rw [Nat.zero_mul, Nat.add_zero] at m4
      rw [← l3] at m4
      have := nv_lt s1
      have hc : c = 0 ∨ c = 1 := by omega
      rcases hc with rfl | rfl
      · omega
      · rw [Nat.one_mul] at s3
        generalize nv h l = x at *
        generalize nv ph pl = y at *
        generalize (q - 1) * nv dh dl = z at *
        generalize nv dh dl = d at *
        generalize B128 = b at *
        omega
    · omega
  refine ⟨l2, hco, by omega, by omega, s1, ?_, l1, m6, m7⟩
  obtain ⟨j, rfl⟩ : ∃ j, o = j + c := ⟨o - c, by omega⟩
  rw [Nat.add_sub_cancel]
  rw [Nat.add_mul, ← l3] at m4
  generalize nv h l = x at *
  generalize nv ph pl = y at *
  generalize (q - 1) * nv dh dl = z at *
  generalize nv dh dl = d at *
  generalize j * B128 = jb at *
  generalize c * B128 = cb at *
  omega
/-- It is not: the guess is right. -/
theorem mend_done {ah al v dh dl q o ph pl h l c : Nat} (hv : WW al v) (m : MendF ah al v dh dl q o ph pl) (k : q * nv dh dl ≤ nv ah al * 18446744073709551616 + v) (s : SubF al v ph pl 0 h l c) :
    StepQ ah al v dh dl q h l := by
  obtain ⟨m1, m2, m3, m4, m5, m6, m7⟩ := m
  obtain ⟨s1, s2, s3⟩ := s
  obtain ⟨d1, d2, d3⟩ := Dv.done m6 m5 k
  have a1 := nv_lt s1
  have a2 := nv_lt hv
  have a3 := nv_lt m3
  have e : nv h l = nv ah al * 18446744073709551616 + v - q * nv dh dl := by
    rw [split_dividend] at k d2 d3 ⊢
    rw [← m4] at k d2 d3 ⊢
    generalize nv h l = x at *
    generalize nv al v = t at *
    generalize nv ph pl = y at *
    generalize nv dh dl = d at *
    clear d1 m5 m4 m2 m1
    unfold B128 at *
    omega
  exact ⟨m1, s1, by rw [e]; exact d2, by rw [e]; exact d3⟩
/-- The test of the loop. -/
theorem mend_test {ah al v dh dl q o ph pl : Nat} (hv : WW al v) (m : MendF ah al v dh dl q o ph pl) :
    (nv ah al * 18446744073709551616 + v < q * nv dh dl ∧ (ah < o ∨ ah = o ∧ nv al v < nv ph pl)) ∨ (q * nv dh dl ≤ nv ah al * 18446744073709551616 + v ∧ (o < ah ∨ ah = o ∧ nv ph pl ≤ nv al v)) := by
  obtain ⟨m1, m2, m3, m4, m5, m6, m7⟩ := m
  have a2 := nv_lt hv
  have a3 := nv_lt m3
  rw [split_dividend, ← m4]
  generalize nv al v = t at *
  generalize nv ph pl = y at *
  clear m4 m5 m6 m7 m1 m2
  unfold B128 at *
  omega
end Go.Proofs.YtncpdoeikebomaaDoor
