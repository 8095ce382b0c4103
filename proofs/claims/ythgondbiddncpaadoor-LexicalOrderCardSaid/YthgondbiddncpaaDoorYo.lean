/-
  The order of texts of days and times (layer 9), plain.
-/
import Derived.Test.YthgondbiddncpaaDoorYc
namespace Go.Proofs.YthgondbiddncpaaDoor

/-! ### Texts of one length, put together -/
theorem less_irr : ∀ l : List UInt8, Op.bytesLess l l = false
  | [] => rfl
  | a :: t => by
    unfold Op.bytesLess
    rw [less_irr t]
    simp
theorem less_app : ∀ (a b x y : List UInt8), a.length = b.length → Op.bytesLess (a ++ x) (b ++ y) = (Op.bytesLess a b || (a == b && Op.bytesLess x y))
  | [], [], x, y, _ => by
    rw [List.nil_append, List.nil_append, less_irr]
    simp
  | c :: s, d :: t, x, y, h => by
    have ih := less_app s t x y (by simpa using h)
    rw [List.cons_append, List.cons_append]
    show (decide (c < d) || (c == d && Op.bytesLess (s ++ x) (t ++ y))) = ((decide (c < d) || (c == d && Op.bytesLess s t)) || ((c :: s) == (d :: t) && Op.bytesLess x y))
    rw [ih]
    show _ = ((decide (c < d) || (c == d && Op.bytesLess s t)) || ((c == d && s == t) && Op.bytesLess x y))
    generalize decide (c < d) = p
    generalize (c == d) = q
    generalize Op.bytesLess s t = r
    generalize (s == t) = u
    generalize Op.bytesLess x y = v
    cases p <;> cases q <;> cases r <;> cases u <;> cases v <;> rfl
  | [], d :: t, _, _, h => by cases h
  | c :: s, [], _, _, h => by cases h
theorem less_same (a x y : List UInt8) : Op.bytesLess (a ++ x) (a ++ y) = Op.bytesLess x y := by
  rw [less_app a a x y rfl, less_irr]
  simp

/-! ### Digits, noughts ahead -/
theorem pad_length : ∀ (k n : Nat), (Dx.pad k n).length = k
  | 0, _ => rfl
  | k + 1, n => by rw [Dx.pad, List.length_append, pad_length k]; rfl
theorem sig_lt {a b : Nat} (ha : a < 10) (hb : b < 10) : (decide (UInt8.ofNat (48 + a) < UInt8.ofNat (48 + b))) = decide (a < b) ∧ (UInt8.ofNat (48 + a) == UInt8.ofNat (48 + b)) = (a == b) := by
  have ea : (UInt8.ofNat (48 + a)).toNat = 48 + a := by simp; omega
  have eb : (UInt8.ofNat (48 + b)).toNat = 48 + b := by simp; omega
  constructor
  · rw [decide_eq_decide, UInt8.lt_iff_toNat_lt, ea, eb]
    omega
  · rw [Bool.eq_iff_iff, beq_iff_eq, beq_iff_eq]
    constructor
    · intro h
      have := congrArg UInt8.toNat h
      rw [ea, eb] at this
      omega
    · intro h; rw [h]
theorem less_one (a b : UInt8) : Op.bytesLess [a] [b] = decide (a < b) := by
  unfold Op.bytesLess
  rw [less_irr []]
  simp
theorem pad_less : ∀ (k a b : Nat), a < 10 ^ k → b < 10 ^ k → Op.bytesLess (Dx.pad k a) (Dx.pad k b) = decide (a < b) ∧ (Dx.pad k a == Dx.pad k b) = (a == b)
  | 0, a, b, ha, hb => by
    have : a = 0 := by simpa using ha
    have : b = 0 := by simpa using hb
    subst a b
    exact ⟨rfl, rfl⟩
  | k + 1, a, b, ha, hb => by
    have ih := pad_less k (a / 10) (b / 10) (by rw [Nat.pow_succ] at ha; omega) (by rw [Nat.pow_succ] at hb; omega)
    have s := sig_lt (Nat.mod_lt a (by decide : 0 < 10)) (Nat.mod_lt b (by decide : 0 < 10))
    have ln : (Dx.pad k (a / 10)).length = (Dx.pad k (b / 10)).length := by rw [pad_length, pad_length]
    rw [Dx.pad, Dx.pad, less_app _ _ _ _ ln, ih.1, ih.2, less_one, s.1]
    constructor
    · rw [Bool.eq_iff_iff]
      simp only [Bool.or_eq_true, Bool.and_eq_true, decide_eq_true_eq, beq_iff_eq]
      omega
    · have e : ((Dx.pad k (a / 10) ++ [UInt8.ofNat (48 + a % 10)]) == (Dx.pad k (b / 10) ++ [UInt8.ofNat (48 + b % 10)])) = ((Dx.pad k (a / 10) == Dx.pad k (b / 10)) && (UInt8.ofNat (48 + a % 10) == UInt8.ofNat (48 + b % 10))) := by
        rw [Bool.eq_iff_iff, Bool.and_eq_true, beq_iff_eq, beq_iff_eq, beq_iff_eq]
        constructor
        · intro h
          have := List.append_inj h ln
          exact ⟨this.1, by simpa using this.2⟩
        · intro h; rw [h.1, h.2]
      rw [e, ih.2, s.2, Bool.eq_iff_iff, Bool.and_eq_true, beq_iff_eq, beq_iff_eq, beq_iff_eq]
      omega
/-- A text of so many digits. -/
theorem padL_pad {x : Int} {k : Nat} (h0 : 0 ≤ x) (h : x < 10 ^ (k + 1)) : padL x (k + 1) = Dx.pad (k + 1) x.toNat := by
  have hx : x.toNat < 10 ^ (k + 1) := by
    have e : ((10 ^ (k + 1) : Nat) : Int) = (10 : Int) ^ (k + 1) := by push_cast; rfl
    omega
  rw [Dx.pad_eq k x.toNat hx]
  unfold padL Lib.itoa
  rw [if_neg (by omega), Lib.decDigits_length]
/-- Of two pairs, which one is less: by the first, then by the second. -/
theorem less_pair {a b x y : List UInt8} (h : a.length = b.length) : Op.bytesLess (a ++ x) (b ++ y) = (Op.bytesLess a b || (a == b && Op.bytesLess x y)) := less_app a b x y h
theorem dash_less (c : UInt8) (x y : List UInt8) : Op.bytesLess (c :: x) (c :: y) = Op.bytesLess x y := less_same [c] x y
theorem date_list {y m d : Int} (h : 0 ≤ y) : (dateS y m d).data.toList = padL y 4 ++ 45 :: (padL m 2 ++ 45 :: padL d 2) := by
  unfold dateS sgS padS
  rw [if_neg (by omega), show absI y = y by unfold absI; rw [if_neg (by omega)]]
  simp [ByteArray.data_append, List.append_assoc]
theorem date_less {y m d z k e : Int} (hy : 0 ≤ y ∧ y < 10000) (hz : 0 ≤ z ∧ z < 10000) (hm : 0 ≤ m ∧ m < 100) (hk : 0 ≤ k ∧ k < 100) (hd : 0 ≤ d ∧ d < 100) (he : 0 ≤ e ∧ e < 100) :
    Op.bytesLess (dateS y m d).toList (dateS z k e).toList = decide (ordT y m d z k e < 0) := by
  rw [ByteArray.toList_eq, ByteArray.toList_eq, date_list hy.1, date_list hz.1]
  rw [padL_pad (k := 3) hy.1 (by omega), padL_pad (k := 3) hz.1 (by omega), padL_pad (k := 1) hm.1 (by omega), padL_pad (k := 1) hk.1 (by omega), padL_pad (k := 1) hd.1 (by omega), padL_pad (k := 1) he.1 (by omega)]
  have p1 := pad_less 4 y.toNat z.toNat (by omega) (by omega)
  have p2 := pad_less 2 m.toNat k.toNat (by omega) (by omega)
  have p3 := pad_less 2 d.toNat e.toNat (by omega) (by omega)
  rw [less_app _ _ _ _ (by rw [pad_length, pad_length]), dash_less, less_app _ _ _ _ (by rw [pad_length, pad_length]), dash_less, p1.1, p1.2, p2.1, p2.2, p3.1, Bool.eq_iff_iff]
  simp only [Bool.or_eq_true, Bool.and_eq_true, decide_eq_true_eq, beq_iff_eq]
  unfold ordT ordI
  repeat' split
  all_goals omega
theorem time_list (s : Int) : (timeS s false 0).data.toList = padL (s / 3600) 2 ++ 58 :: (padL (s % 3600 / 60) 2 ++ 58 :: padL (s % 60) 2) := by
  unfold timeS minS secS padS
  rw [if_neg (by decide)]
  simp [ByteArray.data_append, List.append_assoc]
theorem time_less {s t : Int} (hs : 0 ≤ s ∧ s ≤ 86399) (ht : 0 ≤ t ∧ t ≤ 86399) : Op.bytesLess (timeS s false 0).toList (timeS t false 0).toList = decide (s < t) := by
  rw [ByteArray.toList_eq, ByteArray.toList_eq, time_list, time_list]
  rw [padL_pad (k := 1) (x := s / 3600) (by omega) (by omega), padL_pad (k := 1) (x := t / 3600) (by omega) (by omega), padL_pad (k := 1) (x := s % 3600 / 60) (by omega) (by omega), padL_pad (k := 1) (x := t % 3600 / 60) (by omega) (by omega), padL_pad (k := 1) (x := s % 60) (by omega) (by omega), padL_pad (k := 1) (x := t % 60) (by omega) (by omega)]
  have p1 := pad_less 2 (s / 3600).toNat (t / 3600).toNat (by omega) (by omega)
  have p2 := pad_less 2 (s % 3600 / 60).toNat (t % 3600 / 60).toNat (by omega) (by omega)
  have p3 := pad_less 2 (s % 60).toNat (t % 60).toNat (by omega) (by omega)
  rw [less_app _ _ _ _ (by rw [pad_length, pad_length]), dash_less, less_app _ _ _ _ (by rw [pad_length, pad_length]), dash_less, p1.1, p1.2, p2.1, p2.2, p3.1, Bool.eq_iff_iff]
  simp only [Bool.or_eq_true, Bool.and_eq_true, decide_eq_true_eq, beq_iff_eq]
  omega
end Go.Proofs.YthgondbiddncpaaDoor
