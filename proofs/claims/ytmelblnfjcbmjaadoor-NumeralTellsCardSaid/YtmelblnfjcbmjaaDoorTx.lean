/-
  A number's text (Text of package wide), as a contract of its call: the decimal numeral.
-/
import Derived.Test.YtmelblnfjcbmjaaDoorFu
import Derived.Test.YtmelblnfjcbmjaaDoorK
namespace Go.Proofs.YtmelblnfjcbmjaaDoor
open Go.RowKit

namespace Dx
/-- So many digits, noughts ahead. -/
def pad : Nat → Nat → List UInt8
  | 0, _ => []
  | k + 1, b => pad k (b / 10) ++ [UInt8.ofNat (48 + b % 10)]
theorem dec_big {u : Nat} (h : ¬ u < 10) : Lib.decDigits u = Lib.decDigits (u / 10) ++ [UInt8.ofNat (48 + u % 10)] := by rw [Lib.decDigits, dif_neg h]
theorem dec_pad (a k : Nat) (ha : 0 < a) : ∀ b, b < 10 ^ k → Lib.decDigits (a * 10 ^ k + b) = Lib.decDigits a ++ pad k b := by
  induction k with
  | zero => intro b hb; have : b = 0 := by simpa using hb
            subst this; simp [pad]
  | succ k ih =>
    intro b hb
    have hp : 0 < 10 ^ k := Nat.pow_pos (by decide)
    rw [Nat.pow_succ] at hb
    have e : a * 10 ^ (k + 1) = 10 * (a * 10 ^ k) := by rw [Nat.pow_succ, ← Nat.mul_assoc, Nat.mul_comm]
    have hm : 0 < a * 10 ^ k := Nat.mul_pos ha hp
    rw [e, dec_big (by omega), show (10 * (a * 10 ^ k) + b) / 10 = a * 10 ^ k + b / 10 by omega, show (10 * (a * 10 ^ k) + b) % 10 = b % 10 by omega, ih (b / 10) (by omega), pad, List.append_assoc]
theorem pad_zero : ∀ k, pad k 0 = List.replicate k 48
  | 0 => rfl
  | k + 1 => by rw [pad, Nat.zero_div, pad_zero k, List.replicate_succ']; rfl
theorem pad_eq : ∀ (k b : Nat), b < 10 ^ (k + 1) → pad (k + 1) b = List.replicate (k + 1 - Lib.nDigits b) 48 ++ Lib.decDigits b
  | 0, b, h => by
    have h' : b < 10 := by simpa using h
    rw [pad, pad, Lib.nDigits_small h', Lib.decDigits_one h', Nat.mod_eq_of_lt h']
    rfl
  | k + 1, b, h => by
    by_cases z : b < 10
    · rw [pad, Nat.div_eq_of_lt z, pad_zero, Lib.nDigits_small z, Lib.decDigits_one z, Nat.mod_eq_of_lt z]
      rfl
    · rw [pad, pad_eq k (b / 10) (by rw [Nat.pow_succ] at h; omega), Lib.nDigits_big z, dec_big z, List.append_assoc]
      congr 2
      omega
theorem nDigits_le {b k : Nat} (h : b < 10 ^ (k + 1)) : Lib.nDigits b ≤ k + 1 := by
  induction k generalizing b with
  | zero => rw [Lib.nDigits_small (by simpa using h)]; omega
  | succ k ih =>
    by_cases z : b < 10
    · rw [Lib.nDigits_small z]; omega
    · rw [Lib.nDigits_big z]
      have := ih (b := b / 10) (by rw [Nat.pow_succ] at h; omega)
      omega
/-- A numeral in two pieces. -/
theorem dec_split {n a b : Nat} (e : a * 10000000000000000000 + b = n) (ha : 0 < a) (hb : b < 10000000000000000000) :
    Lib.decDigits n = Lib.decDigits a ++ (List.replicate (19 - Lib.nDigits b) 48 ++ Lib.decDigits b) ∧ Lib.nDigits b ≤ 19 := by
  have hb' : b < 10 ^ (18 + 1) := hb
  refine ⟨?_, nDigits_le hb'⟩
  rw [← pad_eq 18 b hb', ← dec_pad a (18 + 1) ha b hb', ← e]
end Dx

theorem balc {w W : World} (h : Below w.heap.size w W) (o : Obj) : Below w.heap.size w (W.alloc o) := h.alloc h.size o
theorem str_append (a b : List UInt8) : (⟨a.toArray⟩ : ByteArray) ++ ⟨b.toArray⟩ = ⟨(a ++ b).toArray⟩ := by
  apply ByteArray.ext
  simp

theorem repeat48 (c : Nat) : Lib.repeatL [48] c = List.replicate c 48 := by
  induction c with
  | zero => rfl
  | succ c ih => rw [Lib.repeatL, ih, List.replicate_succ]; rfl
theorem divText {h l qh ql q2h q2l r : Nat} (ha : WW h l) (F : DivWordF 0 0 h l 10000000000000000000 qh ql q2h q2l r) : nv q2h q2l * 10000000000000000000 + r = nv h l ∧ r < 10000000000000000000 ∧ WW q2h q2l := by
  obtain ⟨f1, f2, f3, f4⟩ := F
  refine ⟨?_, f3, f2⟩
  have a1 := nv_lt ha
  unfold nv2 at f4
  rw [show nv 0 0 = 0 from rfl, Nat.zero_mul, Nat.zero_add] at f4
  have z : nv qh ql = 0 := by
    generalize nv h l = n at *
    generalize nv qh ql = x at *
    generalize nv q2h q2l = y at *
    unfold B128 at *
    omega
  rw [z, Nat.zero_mul, Nat.zero_add] at f4
  exact f4

set_option maxRecDepth 100000 in
set_option maxHeartbeats 2000000 in
theorem text_any (n : Nat) : ∀ (h l : Nat), nv h l = n → WW h l → ∀ w : World, Tab w → Tab2 w → Calls Tryd.prog 34 #[U h l] w (RetS (Lib.decDigits n) w) := by
  induction n using Nat.strongRecOn with
  | _ n ih =>
    intro h l hn ha w ht ht2
    have IH := Lib.hid ih
    have HT := Lib.hid ht
    have HT2 := Lib.hid ht2
    have HA := Lib.hid ha
    have HN := Lib.hid hn
    have c19 : w.cell? ⟨0, 19, none⟩ = some (.int .u64 10000000000000000000) := ht.2 19 (by decide)
    have z1 : 0 < w.heap.size := ht.1
    clear ih ht ht2 ha hn
    go_enter Tryd.func34, Tryd.ntmps34
    go_wp2_with fail
    refine (divWord_any 0 0 h l 10000000000000000000 ⟨by decide, by decide⟩ HA.out (by decide) (by decide) _).mono ?_
    rintro e w1 ⟨qh, ql, q2h, q2l, r, F, rfl, hb1⟩
    obtain ⟨d1, d2, d3⟩ := divText HA.out F
    rw [HN.out] at d1
    have D1 := Lib.hid d1
    have D2 := Lib.hid d2
    have D3 := Lib.hid d3
    have B1 : Below w.heap.size w w1 := bstep (by go_grown) hb1
    clear hb1 c19 z1 d1 d2 d3 F
    go_wp2_with fail
    refine (formatUint_any r (by have := D2.out; omega) _ (HT2.out.below (balc (balc B1 _) _))).mono ?_
    rintro e w2 ⟨rfl, hb2⟩
    have B2 : Below w.heap.size w w2 := bstep (balc (balc B1 _) _) hb2
    have G := Lib.hid (Holds2.below (by simp [Holds2, go_sem]) hb2 : Holds2 w2 (w1.heap.size + 1) q2h q2l)
    clear hb2 B1
    obtain ⟨a1, a2, a3, a4, a5⟩ := G.out
    by_cases z : nv q2h q2l = 0
    · have er : r = n := by have := D1.out; rw [z, Nat.zero_mul, Nat.zero_add] at this; exact this
      subst er
      go_wp2_with fail
      refine (zero_t z _).mono ?_
      rintro e w3 ⟨rfl, hb3⟩
      clear a1 a2 a3 a4 a5
      go_wp2
      go_ret
      exact ⟨rfl, bstep B2 hb3⟩
    · obtain ⟨s1, s2⟩ := Dx.dec_split D1.out (Nat.pos_of_ne_zero z) D2.out
      have S1 := Lib.hid s1
      have lt : nv q2h q2l < n := by have := D1.out; omega
      have TX := Lib.hid (fun W t t2 => IH.out (nv q2h q2l) lt q2h q2l rfl D3.out W t t2)
      have sl : (Lib.decDigits r).length = Lib.nDigits r := Lib.decDigits_length r
      have SL := Lib.hid sl
      obtain ⟨S, hS⟩ : ∃ S : ByteArray, S = ⟨(Lib.decDigits r).toArray⟩ := ⟨_, rfl⟩
      have size : S.size = Lib.nDigits r := by rw [hS, ← sl]; simp [ByteArray.size]
      rw [← hS]
      have HS := Lib.hid hS
      have wr1 : IntKind.i64.wrap (19 - (Lib.nDigits r : Int)) = ((19 - Lib.nDigits r : Nat) : Int) := by rw [IntKind.wrap_i64]; omega
      have RP := Lib.hid (fun W => Tryd.strings_Repeat ⟨#[48]⟩ (19 - Lib.nDigits r) W (by omega) (by show 1 * _ ≤ _; omega))
      clear lt s1 hS sl
      go_wp2_with fail
      refine (zero_f z _).mono ?_
      rintro e w3 ⟨rfl, hb3⟩
      have B3 : Below w.heap.size w w3 := bstep B2 hb3
      have G := Lib.hid (G.out.below hb3)
      clear a1 a2 a3 a4 a5 hb3 B2 z
      obtain ⟨a1, a2, a3, a4, a5⟩ := G.out
      go_wp2_with fail
      refine (TX.out _ (HT.out.below B3) (HT2.out.below B3)).mono ?_
      rintro e w4 ⟨rfl, hb4⟩
      obtain ⟨A, hA⟩ : ∃ A : ByteArray, A = ⟨(Lib.decDigits (nv q2h q2l)).toArray⟩ := ⟨_, rfl⟩
      have sizeA : A.size ≤ 40 := by
        rw [hA]
        have := Dx.nDigits_le (b := nv q2h q2l) (k := 39) (Nat.lt_of_lt_of_le (nv_lt D3.out) (by decide +kernel))
        rw [← Lib.decDigits_length] at this
        simpa [ByteArray.size] using this
      rw [← hA]
      have HA' := Lib.hid hA
      clear hA
      have B4 : Below w.heap.size w w4 := bstep B3 hb4
      clear a1 a2 a3 a4 a5 hb4 B3 G TX
      go_wp2_with fail
      refine (RP.out _).mono ?_
      rintro e w5 ⟨rfl, hb5⟩
      obtain ⟨R, hR⟩ : ∃ R : ByteArray, R = ⟨(Lib.repeatL [48] (19 - Lib.nDigits r)).toArray⟩ := ⟨_, rfl⟩
      have sizeR : R.size ≤ 19 := by
        rw [hR, repeat48]
        simp [ByteArray.size]
      have e0 : (⟨(Lib.repeatL (⟨#[48]⟩ : ByteArray).data.toList (19 - Lib.nDigits r)).toArray⟩ : ByteArray) = R := hR.symm
      rw [e0]
      have HR := Lib.hid hR
      clear hR e0
      have sizeS : S.size ≤ 19 := by omega
      have sAR : (A ++ R).size = A.size + R.size := by simp
      go_wp2
      go_ret
      refine ⟨?_, bstep B4 hb5⟩
      rw [S1.out, HA'.out, HR.out, HS.out, str_append, str_append, repeat48, List.append_assoc]
      rfl
end Go.Proofs.YtmelblnfjcbmjaaDoor
