/-
  A text's runes as a text (the law's Valid, layer 15), and what it keeps.
-/
import Derived.Test.YtfelcneedpndiaaDoorIe
namespace Go.Proofs.YtfelcneedpndiaaDoor
open Go.RowKit Go.Lib

theorem size_of (s : ByteArray) : s.size = s.data.toList.length := (Array.length_toList).symm
theorem strneI {a b : ByteArray} (h : a ≠ b) : (a.toList == b.toList) = false := by
  rw [beq_eq_false_iff_ne]
  intro e
  rw [ByteArray.toList_eq, ByteArray.toList_eq] at e
  exact h (ByteArray.ext (Array.ext' e))
/-- A text's runes as a text. -/
def valS (s : ByteArray) : ByteArray := ⟨(enc (rnS s)).toArray⟩
theorem valS_list (s : ByteArray) : (valS s).data.toList = val s.data.toList := by unfold valS val rnS; simp
theorem valS_val (s : ByteArray) : val (valS s).data.toList = (valS s).data.toList := by rw [valS_list, val_val]
theorem rnS_valS (s : ByteArray) : rnS (valS s) = rnS s := by unfold rnS; rw [valS_list, rn_val]
theorem valS_size (s : ByteArray) : (valS s).size ≤ 4 * s.size := by
  rw [size_of, valS_list]
  have := val_len s.data.toList
  rw [size_of]
  exact this
theorem valS_eq (s : ByteArray) : validD s.data.toList = true ↔ s = valS s := by
  rw [validD_iff]
  constructor
  · intro h
    apply ByteArray.ext
    apply Array.ext'
    rw [valS_list, h]
  · intro h
    have e := valS_list s
    rw [← h] at e
    exact e.symm
theorem lvalid2 (s : ByteArray) (w : World) (hs : s.size ≤ 17592186044416) : Calls Tryd.prog 10 #[.string s] w (Ret (.string (valS s)) w) := lvalid_any s w hs
end Go.Proofs.YtfelcneedpndiaaDoor
