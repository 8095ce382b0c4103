/-
  math/bits.Div64 as a contract of its call: the quotient of two words by a word that is greater than the high one, and what is left.
-/
import Derived.Test.YtncpdoeikebomaaDoorA
import Derived.Test.YtncpdoeikebomaaDoorM
import Derived.Test.YtncpdoeikebomaaDoorMd
import Derived.Deep.DeepCutAuto
import Derived.Deep.CutBlock
import Derived.Test.YtncpdoeikebomaaDoorSh
import Derived.Lib.ItoaNum
import Derived.BigQuiet
import Derived.Deep.QuietTactic
namespace Go.Proofs.YtncpdoeikebomaaDoor
open Go.RowKit

theorem wrapMul' (x k : Nat) : IntKind.u64.wrap ((x : Int) * 2 ^ k) = ((x * 2 ^ k % 18446744073709551616 : Nat) : Int) := by
  rw [IntKind.wrap_u64]; simp
theorem divPow' (x k : Nat) : (x : Int) / 2 ^ k = ((x / 2 ^ k : Nat) : Int) := by simp
/-- How far a word is to be shifted so that its highest bit is set. -/
def LzF (y s : Nat) : Prop := s ≤ 63 ∧ 9223372036854775808 ≤ y * 2 ^ s ∧ y * 2 ^ s < 18446744073709551616

theorem lzF_mk (y : Nat) (h0 : 0 < y) (h1 : y < 18446744073709551616) : ∃ s : Nat, LzF y s ∧ (64 - (Lib.bitLen y : Int)) = s := by
  obtain ⟨a, b, c⟩ := Lib.bitLenAux_bounds 64 y (by simpa using h1) (by omega)
  have d : Lib.bitLen y ≤ 64 := Lib.bitLen_le y 64 (Nat.le_refl _) (by simpa using h1)
  have e : Lib.bitLenAux 64 y = Lib.bitLen y := rfl
  rw [e] at a b c
  refine ⟨64 - Lib.bitLen y, ⟨by omega, ?_, ?_⟩, by omega⟩
  · have := Nat.mul_le_mul_right (2 ^ (64 - Lib.bitLen y)) b
    rw [← Nat.pow_add, show Lib.bitLen y - 1 + (64 - Lib.bitLen y) = 63 by omega] at this
    exact this
  · have := Nat.mul_lt_mul_of_pos_right c (Nat.two_pow_pos (64 - Lib.bitLen y))
    rw [← Nat.pow_add, show Lib.bitLen y + (64 - Lib.bitLen y) = 64 by omega] at this
    exact this

theorem lz_any (y : Nat) (h0 : 0 < y) (h1 : y < 18446744073709551616) (w : World) :
    Calls Tryd.prog 69 #[.int .u64 (y : Int)] w fun e w' => ∃ s : Nat, LzF y s ∧ e = .returned (.int .i64 (s : Int)) ∧ w = w' := by
  obtain ⟨s, hs, e⟩ := lzF_mk y h0 h1
  refine (Tryd.bits_LeadingZeros64 (y : Int) w (by omega) (by omega)).mono fun e' w' ⟨a, b⟩ => ⟨s, hs, ?_, b.symm⟩
  rw [a, Int.toNat_natCast, e]

/-- The words that stand behind the shifts. -/
def ShF (hi lo y s Y v1 v0 u t u1 u0 : Nat) : Prop :=
  Y = y * 2 ^ s ∧ Y = v1 * 4294967296 + v0 ∧ u * 18446744073709551616 + t = (hi * 18446744073709551616 + lo) * 2 ^ s ∧ t = u1 * 4294967296 + u0 ∧ u < Y ∧ Y < 18446744073709551616 ∧ t < 18446744073709551616 ∧ 2147483648 ≤ v1 ∧ v1 < 4294967296 ∧ v0 < 4294967296 ∧ u1 < 4294967296 ∧ u0 < 4294967296

theorem shF_mk (hi lo y s : Nat) (h1 : hi < y) (h2 : lo < 18446744073709551616) (hL : LzF y s) :
    ∃ Y v1 v0 u t u1 u0 : Nat, ShF hi lo y s Y v1 v0 u t u1 u0 ∧ IntKind.u64.wrap ((y : Int) * 2 ^ s) = (Y : Int) ∧ (Y : Int) / 4294967296 = (v1 : Int) ∧ bits .and .u64 (Y : Int) 4294967295 = (v0 : Int) ∧
      bits BinOp.or IntKind.u64 (IntKind.u64.wrap ((hi : Int) * 2 ^ s)) ((lo : Int) / 2 ^ (64 - s)) = (u : Int) ∧ IntKind.u64.wrap ((lo : Int) * 2 ^ s) = (t : Int) ∧ (t : Int) / 4294967296 = (u1 : Int) ∧ bits .and .u64 (t : Int) 4294967295 = (u0 : Int) := by
  obtain ⟨l1, l2, l3⟩ := hL
  have e := Sh.pow64 l1
  have hp : 0 < 2 ^ s := Nat.two_pow_pos s
  obtain ⟨r2, r3⟩ := Sh.left_lt e hp (Nat.two_pow_pos (64 - s)) hi lo h2
  have v := Sh.left_val e hi lo
  have r4 : lo / 2 ^ (64 - s) < 2 ^ s := Nat.div_lt_of_lt_mul (by rw [e]; exact h2)
  have hh : hi * 2 ^ s < 18446744073709551616 := Nat.lt_trans (Nat.mul_lt_mul_of_pos_right h1 hp) l3
  have hq : hi / 2 ^ (64 - s) = 0 := Nat.div_eq_of_lt (by
    rcases Nat.lt_or_ge hi (2 ^ (64 - s)) with h | h
    · exact h
    · have := Nat.mul_le_mul_right (2 ^ s) h
      rw [e] at this
      omega)
  rw [hq, Nat.zero_mul, Nat.add_zero] at v
  have hy : y * 2 ^ s < 18446744073709551616 := l3
  refine ⟨y * 2 ^ s, y * 2 ^ s / 4294967296, y * 2 ^ s % 4294967296, hi % 2 ^ (64 - s) * 2 ^ s + lo / 2 ^ (64 - s), lo % 2 ^ (64 - s) * 2 ^ s, lo % 2 ^ (64 - s) * 2 ^ s / 4294967296, lo % 2 ^ (64 - s) * 2 ^ s % 4294967296, ?_, ?_, ?_, ?_, ?_, ?_, ?_, ?_⟩
  · refine ⟨rfl, by omega, v, by omega, ?_, hy, r3, by omega, by omega, Nat.mod_lt _ (by decide), by omega, Nat.mod_lt _ (by decide)⟩
    have m := Nat.mul_le_mul_right (2 ^ s) (Nat.succ_le_of_lt h1)
    rw [Nat.succ_mul] at m
    have m2 : hi % 2 ^ (64 - s) * 2 ^ s ≤ hi * 2 ^ s := Nat.mul_le_mul_right _ (Nat.mod_le _ _)
    omega
  · rw [wrapMul', Nat.mod_eq_of_lt hy]
  · omega
  · exact Mul64.maskN _ hy
  · rw [wrapMul', divPow', Sh.mul_mod_of e, bits_or_u64_nat _ _ (Nat.lt_of_le_of_lt (Nat.le_add_right _ _) r2) (Nat.lt_of_le_of_lt (Nat.le_add_left _ _) r2), Sh.or_sum'' r4]
  · rw [wrapMul', Sh.mul_mod_of e]
  · omega
  · exact Mul64.maskN _ r3

def LoopR (u v1 v0 u0 Q : Nat) (q r : Value) : Prop := ∃ R : Nat, StepF u v1 v0 u0 Q R ∧ q = .int .u64 (Q : Int) ∧ r = .int .u64 (R : Int)
def OutR (u v1 v0 u0 : Nat) (q : Value) : Prop := ∃ Q : Nat, Q = (u * 4294967296 + u0) / (v1 * 4294967296 + v0) ∧ q = .int .u64 (Q : Int)
theorem named (x : Nat) : ∃ i : Int, i = (x : Int) := ⟨_, rfl⟩
theorem ret_two {a b c d : Int} (h : a = c) (k : b = d) : Value.tuple #[.int .u64 a, .int .u64 b] = Value.tuple #[.int .u64 c, .int .u64 d] := by rw [h, k]
theorem int_eq {k : IntKind} {a b : Int} (h : a = b) : Value.int k a = Value.int k b := by rw [h]

theorem start_words {u v1 v0 u0 : Nat} (p : StepPre u v1 v0 u0) :
    ∃ q r : Nat, StepF u v1 v0 u0 q r ∧ (u : Int) / v1 = q ∧ IntKind.u64.wrap ((u : Int) - IntKind.u64.wrap ((q : Int) * v1)) = r := by
  have f := stepF_start p
  refine ⟨_, _, f, ?_, ?_⟩
  · simp
  · obtain ⟨f1, _, _, _⟩ := f
    rw [Mul64.mulN, IntKind.wrap_u64, IntKind.wrap_u64]
    generalize u / v1 * v1 = m at *
    omega

/-- What is left behind the first digit. -/
theorem rest_words {u u1 Y Q : Nat} (hY : 0 < Y) (hY' : Y < 18446744073709551616) (hQ : Q = (u * 4294967296 + u1) / Y) :
    ∃ a1 a2 a3 : Int, IntKind.u64.wrap ((u : Int) * 4294967296) = a1 ∧ IntKind.u64.wrap (a1 + (u1 : Int)) = a2 ∧ IntKind.u64.wrap ((Q : Int) * Y) = a3 ∧ IntKind.u64.wrap (a2 - a3) = (((u * 4294967296 + u1) % Y : Nat) : Int) := by
  refine ⟨_, _, _, rfl, rfl, rfl, ?_⟩
  have e := Nat.div_add_mod' (u * 4294967296 + u1) Y
  have l : (u * 4294967296 + u1) % Y < Y := Nat.mod_lt _ hY
  rw [← hQ] at e
  rw [Mul64.mulN]
  simp only [IntKind.wrap_u64]
  generalize (u * 4294967296 + u1) % Y = r at *
  generalize Q * Y = m at *
  omega

set_option maxRecDepth 100000 in
set_option maxHeartbeats 1000000 in
theorem div64_any (hi lo y : Nat) (h1 : hi < y) (h2 : lo < 18446744073709551616) (h3 : y < 18446744073709551616) (h4 : 0 < hi) (w : World) :
    Calls Tryd.prog 96 #[.int .u64 (hi : Int), .int .u64 (lo : Int), .int .u64 (y : Int)] w fun e w' => ∃ q r : Nat, (q < 18446744073709551616 ∧ r < y ∧ q * y + r = hi * 18446744073709551616 + lo) ∧ e = .returned (.tuple #[.int .u64 (q : Int), .int .u64 (r : Int)]) ∧ w = w' := by
  have t1 : ((y : Int) == 0) = false := by simp; omega
  have t2 : ((hi : Int) == 0) = false := by simp; omega
  have t3 : ¬ (y ≤ hi) := by omega
  go_enter Tryd.func96, Tryd.ntmps96
  go_wp2_with fail
  refine (lz_any y (by omega) h3 _).mono ?_
  rintro e w1 ⟨s, L, rfl, rfl⟩
  obtain ⟨Y, v1, v0, u, t, u1, u0, SF, e1, e2, e3, e4, e5, e6, e7⟩ := shF_mk hi lo y s h1 h2 L
  have s63 : s ≤ 63 := L.1
  have SH := Lib.hid SF
  obtain ⟨_, _, _, _, b1, b2, b3, b4, b5, b6, b7, b8⟩ := SF
  rename_i c1 c2 c3 c4
  have p1 : StepPre u v1 v0 u1 := ⟨by omega, b4, b5, b6, b7⟩
  obtain ⟨q0, r0, f0, e8, e9⟩ := start_words p1
  have F0 := Lib.hid f0
  clear f0 c1 c2 c3 c4
  obtain ⟨Yi, hY⟩ := named Y
  obtain ⟨vi, hv⟩ := named v1
  obtain ⟨zi, hz⟩ := named v0
  obtain ⟨ui, hu⟩ := named u
  obtain ⟨ti, ht⟩ := named t
  obtain ⟨xi, hx⟩ := named u1
  obtain ⟨oi, ho⟩ := named u0
  obtain ⟨qi, hq⟩ := named q0
  obtain ⟨ri, hr⟩ := named r0
  rw [← hv, ← hu, ← hq] at e8
  rw [← hv, ← hu, ← hq, ← hr] at e9
  rw [← hY] at e1 e2 e3
  rw [← hv] at e2
  rw [← hz] at e3
  rw [← hu] at e4
  rw [← ht] at e5 e6 e7
  rw [← hx] at e6
  rw [← ho] at e7
  obtain ⟨k1, k2, k3, k4, k5, k6⟩ : (0 ≤ Yi ∧ Yi < 18446744073709551616) ∧ (2147483648 ≤ vi ∧ vi < 4294967296) ∧ (0 ≤ zi ∧ zi < 4294967296) ∧ (0 ≤ xi ∧ xi < 4294967296) ∧ (0 ≤ oi ∧ oi < 4294967296) ∧ (0 ≤ ui ∧ ui < 18446744073709551616) := by omega
  have HY := Lib.hid hY
  have HV := Lib.hid hv
  have HZ := Lib.hid hz
  have HU := Lib.hid hu
  have HX := Lib.hid hx
  have HO := Lib.hid ho
  have HQ := Lib.hid hq
  have HR := Lib.hid hr
  clear hY hv hz hu ht hx ho hq hr b1 b2 b3 b4 b5 b6 b7 b8
  obtain ⟨k2, k2'⟩ := k2
  obtain ⟨k3, k3'⟩ := k3
  obtain ⟨k4, k4'⟩ := k4
  obtain ⟨k6, k6'⟩ := k6
  go_upto_block 0 with fail
  go_cut [15, 16] (fun q r W => w = W ∧ OutR u v1 v0 u1 q)
  case first =>
    go_wp2_with fail
    go_loopg [15, 16] q0 (fun k q r W => w = W ∧ LoopR u v1 v0 u1 k q r)
    case atStart => exact ⟨rfl, r0, F0.out, int_eq (e8.trans HQ.out), int_eq HR.out⟩
    case round =>
      clear F0 e1 e2 e3 e4 e5 e6 e7 e8 e9 t1 t2 t3 h1 h2 h3 h4 s63
      obtain ⟨rfl, R, f, rfl, rfl⟩ := hrel
      have FF := Lib.hid f
      obtain ⟨Qi, hQi⟩ := named gk
      obtain ⟨Ri, hRi⟩ := named R
      have r1 : 0 ≤ Ri ∧ Ri < 4294967296 := by have := f.2.1; omega
      obtain ⟨r1, r1'⟩ := r1
      have q1 : Qi ≤ 4294967297 := by have := f.2.2.2; omega
      clear f
      rw [← hQi, ← hRi]
      have HQi := Lib.hid hQi
      have HRi := Lib.hid hRi
      rcases Int.lt_or_le Qi 4294967296 with hQ | hQ
      · have q2 : 0 ≤ Qi := by omega
        have m1 : IntKind.u64.wrap (Qi * zi) = ((gk * v0 : Nat) : Int) := by
          rw [hQi, HZ.out, Mul64.mulN]
          have : gk ≤ 4294967295 := by omega
          have : v0 ≤ 4294967295 := by have := HZ.out; omega
          exact Mul64.wrapN _ (Nat.lt_of_le_of_lt (Nat.mul_le_mul ‹gk ≤ 4294967295› ‹v0 ≤ 4294967295›) (by decide))
        obtain ⟨mi, hm⟩ := named (gk * v0)
        rw [← hm] at m1
        have HM := Lib.hid hm
        clear hm
        rcases Int.lt_or_le (4294967296 * Ri + xi) mi with hC | hC
        · obtain ⟨g1, g2, g3⟩ := stepF_less p1 FF.out (.inr (by have := HM.out; have := HX.out; omega))
          have G2 := Lib.hid g2
          have G3 := Lib.hid g3
          have q3 : 0 < Qi := by omega
          clear g1 g2 g3 hQi hRi
          rcases Int.lt_or_le (Ri + vi) 4294967296 with hR | hR
          · go_wp2
            go_roundg (gk - 1)
            case measure => have := HQi.out; omega
            case rel => exact ⟨rfl, R + v1, G2.out (by have := HRi.out; have := HV.out; omega), int_eq (by have := HQi.out; omega), int_eq (by have := HRi.out; have := HV.out; omega)⟩
          · go_wp2
            go_meet
            case rel => exact ⟨rfl, gk - 1, G3.out (by have := HRi.out; have := HV.out; omega), int_eq (by have := HQi.out; omega)⟩
        · have D := Lib.hid (stepF_done p1 FF.out (by have := HM.out; have := HX.out; omega))
          clear hQi hRi
          go_wp2
          go_meet
          case rel => exact ⟨rfl, gk, D.out, int_eq HQi.out⟩
      · obtain ⟨g1, g2, g3⟩ := stepF_less p1 FF.out (.inl (by omega))
        have G2 := Lib.hid g2
        have G3 := Lib.hid g3
        clear g1 g2 g3 hQi hRi
        rcases Int.lt_or_le (Ri + vi) 4294967296 with hR | hR
        · go_wp2
          go_roundg (gk - 1)
          case measure => have := HQi.out; omega
          case rel => exact ⟨rfl, R + v1, G2.out (by have := HRi.out; have := HV.out; omega), int_eq (by have := HQi.out; omega), int_eq (by have := HRi.out; have := HV.out; omega)⟩
        · go_wp2
          go_meet
          case rel => exact ⟨rfl, gk - 1, G3.out (by have := HRi.out; have := HV.out; omega), int_eq (by have := HQi.out; omega)⟩
  case rest =>
    obtain ⟨rfl, Q, hQ, rfl⟩ := hcut
    have hYv : Y = v1 * 4294967296 + v0 := SH.out.2.1
    obtain ⟨y1, y2⟩ : 0 < Y ∧ Y < 18446744073709551616 := by have := HY.out; have := HV.out; omega
    rw [← hYv] at hQ
    obtain ⟨a1, a2, a3, x1, x2, x3, x4⟩ := rest_words y1 y2 hQ
    have l2 : (u * 4294967296 + u1) % Y < Y := Nat.mod_lt _ y1
    have dm := Lib.hid (Nat.div_add_mod' (u * 4294967296 + u1) Y)
    have HQ1 := Lib.hid hQ
    generalize (u * 4294967296 + u1) % Y = u2 at *
    have p2 : StepPre u2 v1 v0 u0 := by
      obtain ⟨_, _, _, p4, _⟩ := p1
      exact ⟨by omega, by have := HV.out; omega, by have := HV.out; omega, p4, by have := HO.out; omega⟩
    obtain ⟨q2, r2, f2, e10, e11⟩ := start_words p2
    have F2 := Lib.hid f2
    obtain ⟨wi, hw⟩ := named u2
    obtain ⟨Qi, hQi⟩ := named Q
    obtain ⟨si, hs⟩ := named q2
    obtain ⟨gi, hg⟩ := named r2
    rw [← HU.out] at x1
    rw [← HX.out] at x2
    rw [← hQi, ← HY.out] at x3
    rw [← hw] at x4
    rw [← hw, ← HV.out, ← hs] at e10
    rw [← hw, ← HV.out, ← hs, ← hg] at e11
    rw [← hQi]
    have w1 : 0 ≤ wi ∧ wi < 18446744073709551616 := by omega
    obtain ⟨w1, w2⟩ := w1
    have HW := Lib.hid hw
    have HQi := Lib.hid hQi
    have HS := Lib.hid hs
    have HG := Lib.hid hg
    have HYv := Lib.hid hYv
    have L2 := Lib.hid l2
    clear hw hQi hs hg f2 hQ hYv l2 y1 y2 F0
    obtain ⟨P, hP⟩ : ∃ P : Nat, P = (u2 * 4294967296 + u0) / Y := ⟨_, rfl⟩
    have Pb : P < 4294967296 := by have := step_Q p2; rw [← HYv.out, ← hP] at this; exact this
    have Qb : Qi < 4294967296 := by have := step_Q p1; rw [← HYv.out, ← HQ1.out] at this; have := HQi.out; omega
    have Qb0 : 0 ≤ Qi := by have := HQi.out; omega
    obtain ⟨y1, y2⟩ : 0 < Y ∧ Y < 18446744073709551616 := by have := HY.out; omega
    obtain ⟨c1, c2, c3, z1, z2, z3, z4⟩ := rest_words y1 y2 hP
    have l4 : (u2 * 4294967296 + u0) % Y < Y := Nat.mod_lt _ y1
    have dm2 := Lib.hid (Nat.div_add_mod' (u2 * 4294967296 + u0) Y)
    have HP := Lib.hid hP
    generalize (u2 * 4294967296 + u0) % Y = rr at *
    have L4 := Lib.hid l4
    clear hP l4 y1 y2
    go_upto_block 2 with fail
    go_cut [18, 16] (fun q r W => w = W ∧ OutR u2 v1 v0 u0 q)
    case first =>
      go_wp2_with fail
      go_loopg [18, 16] q2 (fun k q r W => w = W ∧ LoopR u2 v1 v0 u0 k q r)
      case atStart => exact ⟨rfl, r2, F2.out, int_eq (e10.trans HS.out), int_eq HG.out⟩
      case round =>
        clear F2 e1 e2 e3 e4 e5 e6 e7 e8 e9 e10 e11 t1 t2 t3 h1 h2 h3 h4 s63 x1 x2 x3 x4 z1 z2 z3 z4
        obtain ⟨rfl, R, f, rfl, rfl⟩ := hrel
        have FF := Lib.hid f
        obtain ⟨Pi, hPi⟩ := named gk
        obtain ⟨Ri, hRi⟩ := named R
        have r1 : 0 ≤ Ri ∧ Ri < 4294967296 := by have := f.2.1; omega
        obtain ⟨r1, r1'⟩ := r1
        have q1 : Pi ≤ 4294967297 := by have := f.2.2.2; omega
        clear f
        rw [← hPi, ← hRi]
        have HPi := Lib.hid hPi
        have HRi := Lib.hid hRi
        rcases Int.lt_or_le Pi 4294967296 with hQ | hQ
        · have q2 : 0 ≤ Pi := by omega
          have m1 : IntKind.u64.wrap (Pi * zi) = ((gk * v0 : Nat) : Int) := by
            rw [hPi, HZ.out, Mul64.mulN]
            have : gk ≤ 4294967295 := by omega
            have : v0 ≤ 4294967295 := by have := HZ.out; omega
            exact Mul64.wrapN _ (Nat.lt_of_le_of_lt (Nat.mul_le_mul ‹gk ≤ 4294967295› ‹v0 ≤ 4294967295›) (by decide))
          obtain ⟨mi, hm⟩ := named (gk * v0)
          rw [← hm] at m1
          have HM := Lib.hid hm
          clear hm
          rcases Int.lt_or_le (4294967296 * Ri + oi) mi with hC | hC
          · obtain ⟨g1, g2, g3⟩ := stepF_less p2 FF.out (.inr (by have := HM.out; have := HO.out; omega))
            have G2 := Lib.hid g2
            have G3 := Lib.hid g3
            have q3 : 0 < Pi := by omega
            clear g1 g2 g3 hPi hRi
            rcases Int.lt_or_le (Ri + vi) 4294967296 with hR | hR
            · go_wp2
              go_roundg (gk - 1)
              case measure => have := HPi.out; omega
              case rel => exact ⟨rfl, R + v1, G2.out (by have := HRi.out; have := HV.out; omega), int_eq (by have := HPi.out; omega), int_eq (by have := HRi.out; have := HV.out; omega)⟩
            · go_wp2
              go_meet
              case rel => exact ⟨rfl, gk - 1, G3.out (by have := HRi.out; have := HV.out; omega), int_eq (by have := HPi.out; omega)⟩
          · have D := Lib.hid (stepF_done p2 FF.out (by have := HM.out; have := HO.out; omega))
            clear hPi hRi
            go_wp2
            go_meet
            case rel => exact ⟨rfl, gk, D.out, int_eq HPi.out⟩
        · obtain ⟨g1, g2, g3⟩ := stepF_less p2 FF.out (.inl (by omega))
          have G2 := Lib.hid g2
          have G3 := Lib.hid g3
          clear g1 g2 g3 hPi hRi
          rcases Int.lt_or_le (Ri + vi) 4294967296 with hR | hR
          · go_wp2
            go_roundg (gk - 1)
            case measure => have := HPi.out; omega
            case rel => exact ⟨rfl, R + v1, G2.out (by have := HRi.out; have := HV.out; omega), int_eq (by have := HPi.out; omega), int_eq (by have := HRi.out; have := HV.out; omega)⟩
          · go_wp2
            go_meet
            case rel => exact ⟨rfl, gk - 1, G3.out (by have := HRi.out; have := HV.out; omega), int_eq (by have := HPi.out; omega)⟩
    case rest =>
      obtain ⟨rfl, P', hP', rfl⟩ := hcut
      obtain rfl : P' = P := by rw [hP', HP.out, HYv.out]
      clear hP' F2
      obtain ⟨Pi, hPi⟩ := named P'
      obtain ⟨ni, hn⟩ := named rr
      rw [← HW.out] at z1
      rw [← HO.out] at z2
      rw [← hPi, ← HY.out] at z3
      rw [← hn] at z4
      rw [← hPi]
      have Pb' : 0 ≤ Pi ∧ Pi < 4294967296 := by omega
      obtain ⟨Pb1, Pb2⟩ := Pb'
      have HPi := Lib.hid hPi
      have HN := Lib.hid hn
      clear hPi hn Pb
      go_wp2
      go_ret2
      have hK : 0 < 2 ^ s := Nat.two_pow_pos s
      obtain ⟨s1, s2, s3, s4, _⟩ := SH.out
      have e1' : Q * Y + u2 = u * 4294967296 + u1 := by rw [HQ1.out]; exact dm.out
      have e2' : P' * Y + rr = u2 * 4294967296 + u0 := by rw [HP.out]; exact dm2.out
      obtain ⟨o1, o2⟩ := div_final hK s1 s3 s4 e1' e2' L4.out
      refine ⟨Q * 4294967296 + P', rr / 2 ^ s, ⟨by have := HQi.out; have := HPi.out; omega, o1, o2⟩, ?_, rfl⟩
      refine congrArg Ending.returned (ret_two ?_ ?_)
      · have := HQi.out; have := HPi.out; omega
      · rw [HN.out]; exact divPow' _ _
end Go.Proofs.YtncpdoeikebomaaDoor
