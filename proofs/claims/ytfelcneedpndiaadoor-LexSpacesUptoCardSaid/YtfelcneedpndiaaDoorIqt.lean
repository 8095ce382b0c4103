/-
  A text as a string of the language (layer 13's quoteL) is the text of its runes, quoted (layer 16's quoN).
-/
import Derived.Test.YtfelcneedpndiaaDoorJt
import Derived.Test.YtfelcneedpndiaaDoorIs
import Derived.Test.YtfelcneedpndiaaDoorIe
namespace Go.Proofs.YtfelcneedpndiaaDoor
open Go.Lib

theorem escR_N (r : Nat) : escR r = enc (escN r) := by
  unfold escR escN
  by_cases h1 : r = 10
  · rw [if_pos h1, if_pos h1]; rfl
  rw [if_neg h1, if_neg h1]
  by_cases h2 : r = 13
  · rw [if_pos h2, if_pos h2]; rfl
  rw [if_neg h2, if_neg h2]
  by_cases h3 : r = 9
  · rw [if_pos h3, if_pos h3]; rfl
  rw [if_neg h3, if_neg h3]
  by_cases h4 : r = 92 ∨ r = 34
  · rw [if_pos h4, if_pos h4, enc_cons, enc_cons, enc_nil, List.append_nil]
    rfl
  · rw [if_neg h4, if_neg h4, enc_cons, enc_nil, List.append_nil]
theorem quoteFrom_N (s : ByteArray) : ∀ (fuel pos : Nat), s.size ≤ pos + fuel → quoteFrom s fuel pos = enc ((rn (s.data.toList.drop pos)).flatMap escN)
  | 0, pos, h => by
    rw [rn_end s pos (by omega)]
    rfl
  | fuel + 1, pos, h => by
    by_cases hp : pos < s.size
    · have hw := Lib.width_pos s pos
      have e : quoteFrom s (fuel + 1) pos = escR (Utf8.decode s pos).1 ++ quoteFrom s fuel (pos + (Utf8.decode s pos).2) := by simp [quoteFrom, hp]
      rw [e, rn_at s pos hp, List.flatMap_cons, enc_append, escR_N, quoteFrom_N s fuel _ (by omega)]
    · have e : quoteFrom s (fuel + 1) pos = [] := by simp [quoteFrom, hp]
      rw [e, rn_end s pos hp]
      rfl
theorem quoteL_N (s : ByteArray) : quoteL s = enc (quoN (rnS s)) := by
  unfold quoteL quoN
  rw [quoteFrom_N s s.size 0 (by omega), List.drop_zero, enc_cons, enc_append]
  rfl
open Go.RowKit in
theorem quote_any (s : ByteArray) (hs : 5 * s.size + 8 ≤ 140737488355328) (w : World) : Calls Tryd.prog 11 #[.string s] w (Ret (.string ⟨(enc (quoN (rnS s))).toArray⟩) w) := by
  rw [← quoteL_N]
  exact quote_walk s w hs
end Go.Proofs.YtfelcneedpndiaaDoor
