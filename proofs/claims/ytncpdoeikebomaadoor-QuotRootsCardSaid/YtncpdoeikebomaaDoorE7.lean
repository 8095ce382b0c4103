/-
  The order of two numbers (cmpSizes, Cmp of package dec), each as a contract of its call.
-/
import Derived.Test.YtncpdoeikebomaaDoorSc
import Derived.Test.YtncpdoeikebomaaDoorE4
namespace Go.Proofs.YtncpdoeikebomaaDoor
open Go.RowKit

/-- The sizes of two numbers, the exponent of the first one being not lower. -/
def csz (ca : Nat) (ea : Int) (cb : Nat) (eb : Int) : Int := if 38 < ea - eb then 1 else cmpN (ca * 10 ^ (ea - eb).toNat) cb

set_option maxHeartbeats 1000000 in
theorem cmpSizes_ge (na : Bool) (ah al : Nat) (ea : Int) (nb : Bool) (bh bl : Nat) (eb : Int) (ha : WW ah al) (hb : WW bh bl) (h : eb ≤ ea) (h1 : -6176 ≤ eb) (h2 : ea ≤ 6111) (w : World) (ht : Tab w) :
    Calls Tryd.prog 61 #[Dv na ah al ea, Dv nb bh bl eb] w (RetI (csz (nv ah al) ea (nv bh bl) eb) w) := by
  have HT := Lib.hid ht
  have HA := Lib.hid ha
  have HB := Lib.hid hb
  have t1 : decide (ea < eb) = false := decide_eq_false (by omega)
  have e1 : IntKind.i64.wrap (ea - eb) = ea - eb := by rw [IntKind.wrap_i64]; omega
  unfold csz
  rcases Int.lt_or_le 38 (ea - eb) with z | z
  · rw [if_pos z]
    have TN := Lib.hid (ten_no (ea - eb) (.inr z))
    clear ht ha hb z
    go_enter Tryd.func61, Tryd.ntmps61
    go_wp2_with fail
    refine (TN.out _).mono ?_
    rintro e w1 ⟨rfl, hb1⟩
    have B1 : Below w.heap.size w w1 := bstep (by go_grown) hb1
    clear hb1
    go_wp2
    go_ret
    refine ⟨rfl, ?_⟩
    go_grown
    exact B1.size
  · rw [if_neg (by omega)]
    obtain ⟨k, hk⟩ : ∃ k : Nat, ea - eb = (k : Int) := ⟨(ea - eb).toNat, by omega⟩
    have k38 : k ≤ 38 := by omega
    rw [hk, Int.toNat_natCast]
    rw [hk] at e1
    have TN := Lib.hid (ten_yes k k38)
    clear ht ha hb z
    go_enter Tryd.func61, Tryd.ntmps61
    go_wp2_with fail
    have B0 : Below w.heap.size w ((w.alloc (.cells #[.bool na, .int .u64 (ah : Int), .int .u64 (al : Int), .int .i64 ea] 28)).alloc (.cells #[.bool nb, .int .u64 (bh : Int), .int .u64 (bl : Int), .int .i64 eb] 28)) := by go_grown
    have D0 := Lib.hid (show HoldsD ((w.alloc (.cells #[.bool na, .int .u64 (ah : Int), .int .u64 (al : Int), .int .i64 ea] 28)).alloc (.cells #[.bool nb, .int .u64 (bh : Int), .int .u64 (bl : Int), .int .i64 eb] 28)) w.heap.size na ah al ea from by simp [HoldsD, go_sem])
    have D1 := Lib.hid (show HoldsD ((w.alloc (.cells #[.bool na, .int .u64 (ah : Int), .int .u64 (al : Int), .int .i64 ea] 28)).alloc (.cells #[.bool nb, .int .u64 (bh : Int), .int .u64 (bl : Int), .int .i64 eb] 28)) (w.heap.size + 1) nb bh bl eb from by simp [HoldsD, go_sem])
    refine (TN.out _ (HT.out.below B0)).mono ?_
    rintro e w1 ⟨th, tl, P, rfl, hb1⟩
    have B1 : Below w.heap.size w w1 := bstep B0 hb1
    have HQ := Lib.hid P
    replace D0 := Lib.hid (D0.out.below hb1)
    replace D1 := Lib.hid (D1.out.below hb1)
    clear hb1 B0 P TN HT
    obtain ⟨⟨a1, a2, a3, a4⟩, ⟨a5, a6, a7, a8⟩, a9⟩ := D0.out
    obtain ⟨⟨b1, b2, b3, b4⟩, ⟨b5, b6, b7, b8⟩, b9⟩ := D1.out
    have z1 : w.heap.size < w1.heap.size + 1 := by omega
    go_wp2_with fail
    refine (mul_any ah al th tl HA.out HQ.out.1 _).mono ?_
    rintro e w2 ⟨ph, pl, qh, ql, P, rfl, hb2⟩
    have B2 : Below w.heap.size w w2 := bstep (B1.alloc B1.size _) hb2
    clear a1 a2 a3 a4 a5 a6 a7 a8 a9 b1 b2 b3 b4 b5 b6 b7 b8 b9 z1
    replace D1 := Lib.hid ((D1.out.alloc _).below hb2)
    obtain ⟨⟨b1, b2, b3, b4⟩, ⟨b5, b6, b7, b8⟩, b9⟩ := D1.out
    have HP := Lib.hid P
    clear hb2 B1 P D0
    have z1 : w.heap.size + 1 < w2.heap.size + 1 := by omega
    have z2 : w.heap.size + 1 < w2.heap.size + 1 + 1 := by omega
    go_wp2_with fail
    refine (cmp2_any ph pl qh ql 0 0 bh bl HP.out.1 HP.out.2.1 ww0 HB.out _).mono ?_
    rintro e w3 ⟨rfl, hb3⟩
    have B3 : Below w.heap.size w w3 := bstep ((B2.alloc B2.size _).alloc (Nat.le_trans B2.size (by simp)) _) hb3
    clear b1 b2 b3 b4 b5 b6 b7 b8 b9 z1 z2 hb3 B2
    rw [nv2_low, HP.out.2.2, HQ.out.2]
    go_wp2
    go_ret
    exact ⟨rfl, B3⟩

def csz2 (ca : Nat) (ea : Int) (cb : Nat) (eb : Int) : Int := if ea < eb then -csz cb eb ca ea else csz ca ea cb eb
theorem csz_range (ca : Nat) (ea : Int) (cb : Nat) (eb : Int) : -1 ≤ csz ca ea cb eb ∧ csz ca ea cb eb ≤ 1 := by
  unfold csz
  split
  · omega
  · rcases cmpN_range (ca * 10 ^ (ea - eb).toNat) cb with ⟨e, _⟩ | ⟨e, _⟩ | ⟨e, _⟩ <;> rw [e] <;> omega
theorem csz2_range (ca : Nat) (ea : Int) (cb : Nat) (eb : Int) : -1 ≤ csz2 ca ea cb eb ∧ csz2 ca ea cb eb ≤ 1 := by
  have a := csz_range ca ea cb eb
  have b := csz_range cb eb ca ea
  unfold csz2
  split <;> omega

set_option maxHeartbeats 1000000 in
theorem cmpSizes_any (na : Bool) (ah al : Nat) (ea : Int) (nb : Bool) (bh bl : Nat) (eb : Int) (ha : WW ah al) (hb : WW bh bl) (h1 : -6176 ≤ ea) (h2 : ea ≤ 6111) (h3 : -6176 ≤ eb) (h4 : eb ≤ 6111) (w : World) (ht : Tab w) :
    Calls Tryd.prog 61 #[Dv na ah al ea, Dv nb bh bl eb] w (RetI (csz2 (nv ah al) ea (nv bh bl) eb) w) := by
  unfold csz2
  rcases Int.lt_or_le ea eb with z | z
  · rw [if_pos z]
    have CS := Lib.hid (cmpSizes_ge nb bh bl eb na ah al ea hb ha (by omega) h1 h4)
    obtain ⟨r1, r2⟩ := csz_range (nv bh bl) eb (nv ah al) ea
    generalize csz (nv bh bl) eb (nv ah al) ea = c at *
    have t1 : decide (ea < eb) = true := decide_eq_true z
    have e1 : IntKind.i64.wrap (-c) = -c := by rw [IntKind.wrap_i64]; omega
    have HT := Lib.hid ht
    clear ht z
    go_enter Tryd.func61, Tryd.ntmps61
    go_wp2_with fail
    have B0 : Below w.heap.size w ((w.alloc (.cells #[.bool na, .int .u64 (ah : Int), .int .u64 (al : Int), .int .i64 ea] 28)).alloc (.cells #[.bool nb, .int .u64 (bh : Int), .int .u64 (bl : Int), .int .i64 eb] 28)) := by go_grown
    refine (CS.out _ (HT.out.below B0)).mono ?_
    rintro e w1 ⟨rfl, hb1⟩
    have B1 : Below w.heap.size w w1 := bstep B0 hb1
    clear hb1 B0
    go_wp2
    go_ret
    exact ⟨rfl, B1⟩
  · rw [if_neg (by omega)]
    exact cmpSizes_ge na ah al ea nb bh bl eb ha hb z h3 h2 w ht

/-- What Cmp answers. -/
def cmpD (na : Bool) (ca : Nat) (ea : Int) (nb : Bool) (cb : Nat) (eb : Int) : Int := if sgn na ca = sgn nb cb then sgn na ca * csz2 ca ea cb eb else Lib.compareInt (sgn na ca) (sgn nb cb)
theorem sgn_range (n : Bool) (c : Nat) : -1 ≤ sgn n c ∧ sgn n c ≤ 1 := by unfold sgn; split <;> (try split) <;> omega

set_option maxHeartbeats 1000000 in
theorem cmp_dec (na : Bool) (ah al : Nat) (ea : Int) (nb : Bool) (bh bl : Nat) (eb : Int) (ha : WW ah al) (hb : WW bh bl) (h1 : -6176 ≤ ea) (h2 : ea ≤ 6111) (h3 : -6176 ≤ eb) (h4 : eb ≤ 6111) (w : World) (ht : Tab w) :
    Calls Tryd.prog 26 #[Dv na ah al ea, Dv nb bh bl eb] w (RetI (cmpD na (nv ah al) ea nb (nv bh bl) eb) w) := by
  have HT := Lib.hid ht
  have S1 := Lib.hid (sign_any na ah al ea)
  have S2 := Lib.hid (sign_any nb bh bl eb)
  have CS := Lib.hid (cmpSizes_any na ah al ea nb bh bl eb ha hb h1 h2 h3 h4)
  unfold cmpD
  obtain ⟨r1, r2⟩ := sgn_range na (nv ah al)
  obtain ⟨r3, r4⟩ := csz2_range (nv ah al) ea (nv bh bl) eb
  generalize sgn na (nv ah al) = s1 at *
  generalize sgn nb (nv bh bl) = s2 at *
  generalize csz2 (nv ah al) ea (nv bh bl) eb = c at *
  have e1 : IntKind.i64.wrap (s1 * c) = s1 * c := by
    have : s1 = -1 ∨ s1 = 0 ∨ s1 = 1 := by omega
    rw [IntKind.wrap_i64]
    rcases this with y | y | y <;> rw [y] <;> omega
  have CI := Lib.hid (Tryd.cmp_Compare_int s1 s2)
  clear ht ha hb h1 h2 h3 h4
  by_cases z : s1 = s2
  · rw [if_pos z]
    have t1 : (s1 != s2) = false := by rw [z]; simp
    clear z
    go_enter Tryd.func26, Tryd.ntmps26
    go_wp2_with fail
    have B0 : Below w.heap.size w ((w.alloc (.cells #[.bool na, .int .u64 (ah : Int), .int .u64 (al : Int), .int .i64 ea] 28)).alloc (.cells #[.bool nb, .int .u64 (bh : Int), .int .u64 (bl : Int), .int .i64 eb] 28)) := by go_grown
    have D0 := Lib.hid (show HoldsD ((w.alloc (.cells #[.bool na, .int .u64 (ah : Int), .int .u64 (al : Int), .int .i64 ea] 28)).alloc (.cells #[.bool nb, .int .u64 (bh : Int), .int .u64 (bl : Int), .int .i64 eb] 28)) w.heap.size na ah al ea from by simp [HoldsD, go_sem])
    have D1 := Lib.hid (show HoldsD ((w.alloc (.cells #[.bool na, .int .u64 (ah : Int), .int .u64 (al : Int), .int .i64 ea] 28)).alloc (.cells #[.bool nb, .int .u64 (bh : Int), .int .u64 (bl : Int), .int .i64 eb] 28)) (w.heap.size + 1) nb bh bl eb from by simp [HoldsD, go_sem])
    refine (S1.out _).mono ?_
    rintro e w1 ⟨rfl, hb1⟩
    have B1 : Below w.heap.size w w1 := bstep B0 hb1
    replace D0 := Lib.hid (D0.out.below hb1)
    replace D1 := Lib.hid (D1.out.below hb1)
    obtain ⟨⟨b1, b2, b3, b4⟩, ⟨b5, b6, b7, b8⟩, b9⟩ := D1.out
    clear hb1 B0 S1
    go_wp2_with fail
    refine (S2.out _).mono ?_
    rintro e w2 ⟨rfl, hb2⟩
    have B2 : Below w.heap.size w w2 := bstep B1 hb2
    clear b1 b2 b3 b4 b5 b6 b7 b8 b9
    obtain ⟨⟨a1, a2, a3, a4⟩, ⟨a5, a6, a7, a8⟩, a9⟩ := D0.out.below hb2
    obtain ⟨⟨b1, b2, b3, b4⟩, ⟨b5, b6, b7, b8⟩, b9⟩ := D1.out.below hb2
    clear hb2 B1 D0 D1 S2
    go_wp2_with fail
    refine (CS.out _ (HT.out.below B2)).mono ?_
    rintro e w3 ⟨rfl, hb3⟩
    have B3 : Below w.heap.size w w3 := bstep B2 hb3
    clear a1 a2 a3 a4 a5 a6 a7 a8 a9 b1 b2 b3 b4 b5 b6 b7 b8 b9 hb3 B2
    go_wp2
    go_ret
    exact ⟨rfl, B3⟩
  · rw [if_neg z]
    have t1 : (s1 != s2) = true := by simpa using z
    clear z
    go_enter Tryd.func26, Tryd.ntmps26
    go_wp2_with fail
    have B0 : Below w.heap.size w ((w.alloc (.cells #[.bool na, .int .u64 (ah : Int), .int .u64 (al : Int), .int .i64 ea] 28)).alloc (.cells #[.bool nb, .int .u64 (bh : Int), .int .u64 (bl : Int), .int .i64 eb] 28)) := by go_grown
    have D1 := Lib.hid (show HoldsD ((w.alloc (.cells #[.bool na, .int .u64 (ah : Int), .int .u64 (al : Int), .int .i64 ea] 28)).alloc (.cells #[.bool nb, .int .u64 (bh : Int), .int .u64 (bl : Int), .int .i64 eb] 28)) (w.heap.size + 1) nb bh bl eb from by simp [HoldsD, go_sem])
    refine (S1.out _).mono ?_
    rintro e w1 ⟨rfl, hb1⟩
    have B1 : Below w.heap.size w w1 := bstep B0 hb1
    replace D1 := Lib.hid (D1.out.below hb1)
    obtain ⟨⟨b1, b2, b3, b4⟩, ⟨b5, b6, b7, b8⟩, b9⟩ := D1.out
    clear hb1 B0 S1
    go_wp2_with fail
    refine (S2.out _).mono ?_
    rintro e w2 ⟨rfl, hb2⟩
    have B2 : Below w.heap.size w w2 := bstep B1 hb2
    clear b1 b2 b3 b4 b5 b6 b7 b8 b9
    obtain ⟨⟨b1, b2, b3, b4⟩, ⟨b5, b6, b7, b8⟩, b9⟩ := D1.out.below hb2
    clear hb2 B1 D1
    go_wp2_with fail
    refine (S2.out _).mono ?_
    rintro e w3 ⟨rfl, hb3⟩
    have B3 : Below w.heap.size w w3 := bstep B2 hb3
    clear b1 b2 b3 b4 b5 b6 b7 b8 b9 hb3 B2
    go_wp2_with fail
    refine (CI.out _).mono ?_
    rintro e w4 ⟨rfl, rfl⟩
    go_wp2
    go_ret
    exact ⟨rfl, B3⟩
end Go.Proofs.YtncpdoeikebomaaDoor
