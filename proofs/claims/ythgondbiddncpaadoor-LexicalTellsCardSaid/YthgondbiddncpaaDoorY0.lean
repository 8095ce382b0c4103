/-
  What the texts of layer 9 lean on: strconv's table, what an answer is that is a string, sizes of strings put together.
-/
import Derived.Test.YthgondbiddncpaaDoorSh2
import Derived.Test.YthgondbiddncpaaDoorC0
import Derived.Lib.AppendIntMem
import Derived.Lib.LaidTab
import Derived.BigCall
import Derived.BigGuard
namespace Go.Proofs.YthgondbiddncpaaDoor
open Go.RowKit Go.Sort

/-- The table of strconv lies where it was laid. -/
def Tab2 (w : World) : Prop := Lib.TabIs Tryd.prog w "internal/strconv.uint64pow10" .u64 Lib.pow10Tab

theorem gTab2 : Tryd.prog.globalNamed "internal/strconv.uint64pow10" = some 1 := by kernel_rfl
theorem Tab2.below {w w' : World} (h : Tab2 w) (hb : Below w.heap.size w w') : Tab2 w' := by
  unfold Tab2 Lib.TabIs World.var? at *
  rw [gTab2] at *
  simp only [Option.bind_some] at *
  have lt : 1 < w.heap.size := by
    rcases Nat.lt_or_ge 1 w.heap.size with x | x
    · exact x
    · rw [Array.getElem?_eq_none x] at h; cases h
  rw [hb.block _ lt]
  exact h
theorem below_grow {w : World} {k : Nat} {os : Array Obj} {w' : World} (e : w' = grow (w.drewN k) os) : Below w.heap.size w w' := by
  subst e
  exact ⟨rfl, rfl, rfl, by simp [grow], fun i hi => by simp [grow, hi, Array.getElem?_append]⟩
def RetS (l : List UInt8) (w : World) (e : Ending) (w' : World) : Prop := e = .returned (.string ⟨l.toArray⟩) ∧ Below w.heap.size w w'
theorem balc {w W : World} (h : Below w.heap.size w W) (o : Obj) : Below w.heap.size w (W.alloc o) := h.alloc h.size o
theorem str_append (a b : List UInt8) : (⟨a.toArray⟩ : ByteArray) ++ ⟨b.toArray⟩ = ⟨(a ++ b).toArray⟩ := by
  apply ByteArray.ext
  simp
theorem repeat48 (c : Nat) : Lib.repeatL [48] c = List.replicate c 48 := by
  induction c with
  | zero => rfl
  | succ c ih => rw [Lib.repeatL, ih, List.replicate_succ]; rfl
theorem size_add' (S T : ByteArray) : (S ++ T).size = S.size + T.size := by
  show (S ++ T).data.size = _
  rw [ByteArray.data_append, Array.size_append]
  rfl
theorem size_list (l : List UInt8) : (⟨l.toArray⟩ : ByteArray).size = l.length := by simp [ByteArray.size]
theorem str_assoc (a b c : ByteArray) : a ++ b ++ c = a ++ (b ++ c) := by
  apply ByteArray.ext
  simp [ByteArray.data_append, Array.append_assoc]
theorem str_nil (a : ByteArray) : ({ data := #[] } : ByteArray) ++ a = a := by
  apply ByteArray.ext
  simp [ByteArray.data_append]
theorem str_nil' (a : ByteArray) : a ++ ({ data := #[] } : ByteArray) = a := by
  apply ByteArray.ext
  simp [ByteArray.data_append]
theorem size_le {S T : ByteArray} {a b c : Nat} (h : S.size ≤ a) (k : T.size ≤ b) (e : a + b ≤ c) : (S ++ T).size ≤ c := by
  rw [size_add']; omega
theorem str_ne {a b : ByteArray} (h : a ≠ b) : (a.toList == b.toList) = false := by
  rw [beq_eq_false_iff_ne]
  intro e
  rw [ByteArray.toList_eq, ByteArray.toList_eq] at e
  exact h (ByteArray.ext (Array.ext' e))
theorem str_empty : ({ data := #[] } : ByteArray).toList.isEmpty = true := by rw [ByteArray.toList_eq]; rfl
theorem str_some {a : ByteArray} (h : a ≠ { data := #[] }) : a.toList.isEmpty = false := by
  rw [ByteArray.toList_eq]
  cases e : a.data.toList with
  | nil => exact absurd (ByteArray.ext (Array.ext' (by rw [e]))) h
  | cons x l => rfl
namespace Dx
/-- So many digits, noughts ahead. -/
def pad : Nat → Nat → List UInt8
  | 0, _ => []
  | k + 1, b => pad k (b / 10) ++ [UInt8.ofNat (48 + b % 10)]
theorem dec_big {u : Nat} (h : ¬ u < 10) : Lib.decDigits u = Lib.decDigits (u / 10) ++ [UInt8.ofNat (48 + u % 10)] := by rw [Lib.decDigits, dif_neg h]
theorem dec_pad (a k : Nat) (ha : 0 < a) : ∀ b, b < 10 ^ k → Lib.decDigits (a * 10 ^ k + b) = Lib.decDigits a ++ pad k b := by
  induction k with
  | zero => intro b hb; have : b = 0 := by simpa using hb
            subst this; simp [pad]
  | succ k ih =>
    intro b hb
    have hp : 0 < 10 ^ k := Nat.pow_pos (by decide)
    rw [Nat.pow_succ] at hb
    have e : a * 10 ^ (k + 1) = 10 * (a * 10 ^ k) := by rw [Nat.pow_succ, ← Nat.mul_assoc, Nat.mul_comm]
    have hm : 0 < a * 10 ^ k := Nat.mul_pos ha hp
    rw [e, dec_big (by omega), show (10 * (a * 10 ^ k) + b) / 10 = a * 10 ^ k + b / 10 by omega, show (10 * (a * 10 ^ k) + b) % 10 = b % 10 by omega, ih (b / 10) (by omega), pad, List.append_assoc]
theorem pad_zero : ∀ k, pad k 0 = List.replicate k 48
  | 0 => rfl
  | k + 1 => by rw [pad, Nat.zero_div, pad_zero k, List.replicate_succ']; rfl
theorem pad_eq : ∀ (k b : Nat), b < 10 ^ (k + 1) → pad (k + 1) b = List.replicate (k + 1 - Lib.nDigits b) 48 ++ Lib.decDigits b
  | 0, b, h => by
    have h' : b < 10 := by simpa using h
    rw [pad, pad, Lib.nDigits_small h', Lib.decDigits_one h', Nat.mod_eq_of_lt h']
    rfl
  | k + 1, b, h => by
    by_cases z : b < 10
    · rw [pad, Nat.div_eq_of_lt z, pad_zero, Lib.nDigits_small z, Lib.decDigits_one z, Nat.mod_eq_of_lt z]
      rfl
    · rw [pad, pad_eq k (b / 10) (by rw [Nat.pow_succ] at h; omega), Lib.nDigits_big z, dec_big z, List.append_assoc]
      congr 2
      omega
theorem nDigits_le {b k : Nat} (h : b < 10 ^ (k + 1)) : Lib.nDigits b ≤ k + 1 := by
  induction k generalizing b with
  | zero => rw [Lib.nDigits_small (by simpa using h)]; omega
  | succ k ih =>
    by_cases z : b < 10
    · rw [Lib.nDigits_small z]; omega
    · rw [Lib.nDigits_big z]
      have := ih (b := b / 10) (by rw [Nat.pow_succ] at h; omega)
      omega
end Dx
theorem dec_len {c : Nat} (h : c < 10 ^ 34) : (Lib.decDigits c).length ≤ 34 := by
  rw [Lib.decDigits_length]
  exact Dx.nDigits_le (k := 33) h
end Go.Proofs.YthgondbiddncpaaDoor
